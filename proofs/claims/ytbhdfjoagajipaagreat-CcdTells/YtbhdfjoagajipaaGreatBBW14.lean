/- The document's own Candidates of layer 9. -/
import Derived.Test.YtbhdfjoagajipaaGreatBBW0
import Derived.Test.YtbhdfjoagajipaaGreatBBW8
namespace Go.Proofs.YtbhdfjoagajipaaGreat
open Go.RowKit Go.Shelf
set_option linter.unusedVariables false

set_option maxHeartbeats 8000000 in
set_option maxRecDepth 100000 in
theorem rcand9_any (a b : Cr) (pv av ev qv bv fv : Value) (w0 : World) (hp : Lies w0 pv a.P) (ha : Lies w0 av a.A) (he : Lies w0 ev a.E) (hq : Lies w0 qv b.P) (hb : Lies w0 bv b.A) (hf : Lies w0 fv b.E) (hma : mayC a = true) (hmb : mayC b = true) :
    Calls Tryz.prog 121 #[coreA pv av ev a.r, coreA qv bv fv b.r] w0 fun e W => ∃ u, e = .returned u ∧ Hid (Row w0 W u (both (candL a b))) := by
  obtain ⟨hP1, hA1, hE1, hPi, hEi⟩ := mayC_parts hma
  obtain ⟨hQ1, hB1, hF1, hQi, hFi⟩ := mayC_parts hmb
  obtain ⟨P, A, E, r⟩ := a
  obtain ⟨Q, B, Fl, s⟩ := b
  dsimp only at *
  clear hma hmb
  obtain ⟨EE, hEE⟩ : ∃ x, x = E ++ Fl := ⟨_, rfl⟩
  have hEEl : EE.length ≤ 256 := by rw [hEE, List.length_append]; omega
  have HEI : ∀ p ∈ EE, p.inB 1048576 = true := by rw [hEE]; intro p hp; rcases List.mem_append.1 hp with h | h; exact hEi p h; exact hFi p h
  have HCX : Hid (∀ i k, i < E.length → k < Fl.length → ∀ w', Calls Tryz.prog 75 #[(pt E i).v, (pt Fl k).v] w' fun e W => e = .returned ((pt E i).cross (pt Fl k)).v ∧ Below w'.heap.size w' W) := fun i k hi hk w' => rcross9_any _ _ w' (inB_mono (hEi _ (pt_mem hi)) (by decide)) (inB_mono (hFi _ (pt_mem hk)) (by decide))
  have HMI : Hid (∀ i k, i < P.length → k < Q.length → ∀ w', Calls Tryz.prog 8 #[(pt Q k).v, (pt P i).v] w' fun e W => e = .returned ((pt Q k).sub (pt P i)).v ∧ Below w'.heap.size w' W) := fun i k hi hk w' => nminus_any _ _ w' (inB_mono (hQi _ (pt_mem hk)) (by decide)) (inB_mono (hPi _ (pt_mem hi)) (by decide))
  have HSH : Hid (∀ (p : Pt) w', Calls Tryz.prog 74 #[p.v] w' fun e W => e = .returned (p.short).v ∧ Below w'.heap.size w' W) := fun p w' => rshort_any p w'
  have HC2 : Hid (∀ (d : Pt) m, m < EE.length → ∀ w', Calls Tryz.prog 75 #[(pt EE m).v, d.short.v] w' fun e W => e = .returned ((pt EE m).cross d.short).v ∧ Below w'.heap.size w' W) := fun d m hm w' => rcross9_any _ _ w' (inB_mono (HEI _ (pt_mem hm)) (by decide)) (inB_mono (short_in d) (by decide))
  have HC3 : Hid (∀ (d : Pt) m, m < EE.length → ∀ w', Calls Tryz.prog 75 #[d.short.v, (pt EE m).v] w' fun e W => e = .returned (d.short.cross (pt EE m)).v ∧ Below w'.heap.size w' W) := fun d m hm w' => rcross9_any _ _ w' (inB_mono (short_in d) (by decide)) (inB_mono (HEI _ (pt_mem hm)) (by decide))
  have HLG : Hid (∀ (p : Pt) w', Calls Tryz.prog 147 #[p.v] w' fun e W => e = .returned (p.lng).v ∧ Below w'.heap.size w' W) := fun p w' => rlong9_any p w'
  have HEE : Hid _ := hEE
  clear hPi hEi hQi hFi HEI hEE
  have HLA : Hid _ := ha
  have HLB : Hid _ := hb
  have HLE : Hid _ := he
  have HLF : Hid _ := hf
  obtain ⟨o1, cap1, rfl, _, _, hc1⟩ := hp.form
  obtain ⟨o2, cap2, rfl, _, _, _⟩ := ha.form
  obtain ⟨o3, cap3, rfl, _, _, hc3⟩ := he.form
  obtain ⟨o4, cap4, rfl, _, _, hc4⟩ := hq.form
  obtain ⟨o5, cap5, rfl, _, _, _⟩ := hb.form
  obtain ⟨o6, cap6, rfl, _, _, hc6⟩ := hf.form
  have HCP : Hid _ := hc1
  have HCE : Hid _ := hc3
  have HCQ : Hid _ := hc4
  have HCF : Hid _ := hc6
  clear hc1 hc3 hc4 hc6 hp ha he hq hb hf
  obtain ⟨i0, hii, hiz, hisz, hib⟩ := info_parts point_info
  have HI : Hid _ := And.intro hii (And.intro hiz (And.intro hisz hib))
  clear hii hiz hisz hib
  unfold coreA
  obtain ⟨V, hV⟩ : ∃ V, V = (w0.alloc (.cells #[.slice o1 P.length cap1, .slice o2 A.length cap2, .slice o3 E.length cap3, .int .i64 r] 35)).alloc (.cells #[.slice o4 Q.length cap4, .slice o5 B.length cap5, .slice o6 Fl.length cap6, .int .i64 s] 35) := ⟨_, rfl⟩
  obtain ⟨cb, hcb⟩ : ∃ b, b = w0.heap.size := ⟨_, rfl⟩
  obtain ⟨db, hdb⟩ : ∃ b, b = w0.heap.size + 1 := ⟨_, rfl⟩
  obtain ⟨n0, hn0⟩ : ∃ b, b = w0.heap.size + 2 := ⟨_, rfl⟩
  obtain ⟨BS, hBS⟩ : ∃ x : List (Nat × List Value), x = [(cb, [.slice o1 P.length cap1, .slice o2 A.length cap2, .slice o3 E.length cap3, .int .i64 r]), (db, [.slice o4 Q.length cap4, .slice o5 B.length cap5, .slice o6 Fl.length cap6, .int .i64 s])] := ⟨_, rfl⟩
  have HK : Hid (CK w0 V n0 BS (.slice none 0 0) [] (.slice none 0 0) []) := by show CK _ _ _ _ _ _ _ _; rw [hBS, hV, hcb, hdb, hn0]; exact CK.start w0 [.slice o1 P.length cap1, .slice o2 A.length cap2, .slice o3 E.length cap3, .int .i64 r] [.slice o4 Q.length cap4, .slice o5 B.length cap5, .slice o6 Fl.length cap6, .int .i64 s] _ _
  have HM1 : Hid ((cb, [.slice o1 P.length cap1, .slice o2 A.length cap2, .slice o3 E.length cap3, .int .i64 r]) ∈ BS) := by show _ ∈ _; rw [hBS]; exact List.mem_cons_self
  have HM2 : Hid ((db, [.slice o4 Q.length cap4, .slice o5 B.length cap5, .slice o6 Fl.length cap6, .int .i64 s]) ∈ BS) := by show _ ∈ _; rw [hBS]; exact List.mem_cons_of_mem _ List.mem_cons_self
  clear hBS hn0
  go_enter Tryz.func121, Tryz.ntmps121
  go_upto_region 2 with fail
  rw [← hV, ← hdb, ← hcb]
  clear hV hcb hdb
  have q1 := HK.out.at HM1.out 1 _ rfl
  go_upto_region 3 with (at_builtin; refine append_lies rfl _ _ rfl n0 _ [] rfl HK.out.own _ A rfl (HLA.out.below HK.out.below) (by first | omega | (simp; omega)) HK.out.hx ?_; intro u1 V1 r1 gw1 sg1; have r1 : V1.ownsRow n0 23 3 u1 A.length (fl3 A) := r1; obtain ⟨p1, c1, e1⟩ := rowp_form r1; subst e1)
  have HK : Hid _ := HK.out.grew r1 (grewOf gw1 sg1)
  clear q1 r1 gw1 sg1
  have q1 := HK.out.at HM2.out 1 _ rfl
  obtain ⟨M1, hM1⟩ : ∃ x, x = A ++ B := ⟨_, rfl⟩
  have hM1l : M1.length ≤ 256 := by rw [hM1, List.length_append]; omega
  have HMA : Hid _ := hM1
  clear hM1
  go_upto_region 4 with (at_builtin; refine append_lies rfl _ _ rfl n0 _ A rfl HK.out.own _ B rfl (HLB.out.below HK.out.below) (by first | omega | (simp; omega)) HK.out.hx ?_; intro u2 V2 r2 gw2 sg2; rw [← HMA.out] at r2; obtain ⟨p2, c2, e2⟩ := rowp_form r2; subst e2)
  have HK : Hid _ := HK.out.grew r2 (grewOf gw2 sg2)
  clear q1 r2 gw2 sg2 HLA HLB
  go_wp2_with (fail)
  go_loopg [5, 6, 7] E.length (fun gm s5 s6 s7 wr => ∃ (i : Nat) (o : Option Addr) (c : Nat) (M : List Pt), s5 = .slice o M.length c ∧ s6 = .int .i64 (i : Int) ∧ i ≤ E.length ∧ M.length ≤ 256 + i * 128 ∧ Hid (gm = E.length - i) ∧ Hid (CK w0 wr n0 BS (.slice o M.length c) M (.slice none 0 0) []) ∧ Hid (M = M1 ++ crossL (E.take i) Fl))
  case atStart => exact ⟨0, p2, c2, M1, rfl, rfl, Nat.zero_le _, by omega, rfl, HK, by show _ = _; simp [crossL]⟩
  case round =>
    clear HK
    obtain ⟨i, o, c, M, rfl, rfl, hi9, hM9, HG, HK, HE⟩ := hrel
    by_cases hit : i < E.length
    · have q2 := HK.out.at HM1.out 2 _ rfl
      obtain ⟨gi, hgi⟩ : ∃ g : Pt → Pt, g = fun f => (pt E i).cross f := ⟨_, rfl⟩
      have HEN : Hid (∀ X, X = M ++ (Fl.take Fl.length).map gi → X = M1 ++ crossL (E.take (i + 1)) Fl) := fun X hX => by rw [hX, List.take_length, hgi, HE.out, cross_next E Fl hit, List.append_assoc]
      have HGI : Hid (∀ f, (pt E i).cross f = gi f) := fun f => by rw [hgi]
      clear hgi HE
      go_wp2_with (fail)
      clear q2
      go_loopg [5, 7] Fl.length (fun gm s5 s7 wr => ∃ (k : Nat) (o : Option Addr) (c : Nat) (N : List Pt), s5 = .slice o N.length c ∧ s7 = .int .i64 (k : Int) ∧ k ≤ Fl.length ∧ N.length ≤ 256 + i * 128 + k ∧ Hid (gm = Fl.length - k) ∧ Hid (CK w0 wr n0 BS (.slice o N.length c) N (.slice none 0 0) []) ∧ Hid (N = M ++ (Fl.take k).map gi))
      case atStart => exact ⟨0, o, c, M, rfl, rfl, Nat.zero_le _, by omega, rfl, HK, by show _ = _; simp⟩
      case round =>
        clear HK
        obtain ⟨k, o, c, N, rfl, rfl, hk9, hN9, HG2, HK, HE⟩ := hrel
        by_cases hit2 : k < Fl.length
        · obtain ⟨g3, f3, rfl, x0, x1, x2⟩ := HCE.out i hit
          obtain ⟨g6, f6, rfl, y0, y1, y2⟩ := HCF.out k hit2
          have x0 := c_after HK.out.below x0
          have x1 := c_after HK.out.below x1
          have x2 := c_after HK.out.below x2
          have y0 := c_after HK.out.below y0
          have y1 := c_after HK.out.below y1
          have y2 := c_after HK.out.below y2
          have qa := HK.out.at HM1.out 2 _ rfl
          have qb := HK.out.at HM2.out 2 _ rfl
          have HXX : Hid _ := HCX.out i k hit hit2
          rw [HGI.out] at HXX
          obtain ⟨np, hnp⟩ : ∃ x, gi (pt Fl k) = x := ⟨_, rfl⟩
          have HNX : Hid (N ++ [np] = M ++ (Fl.take (k + 1)).map gi) := by show _ = _; rw [map_take gi Fl hit2, hnp, HE.out, List.append_assoc]
          rw [hnp] at HXX
          clear hnp HE
          obtain ⟨pe, hpe⟩ : ∃ x, pt E i = x := ⟨_, rfl⟩
          obtain ⟨pf, hpf⟩ : ∃ x, pt Fl k = x := ⟨_, rfl⟩
          rw [hpe] at x0 x1 x2 HXX
          rw [hpf] at y0 y1 y2 HXX
          clear hpe hpf
          unfold Pt.v at HXX
          go_upto_region 10 with fail
          refine RV.region_is [.some (.slice o N.length c), .some (.pointer (some ⟨cb, 2, none⟩)), .some (.slice (some ⟨g3, f3, none⟩) E.length cap3), .some (.int .i64 (i : Int)), .some (.pointer (some ⟨g3, f3 + i * 3, none⟩)), .some (.agg #[.int .i64 pe.x, .int .i64 pe.y, .int .i64 pe.z]), .some (.pointer (some ⟨db, 2, none⟩)), .some (.slice (some ⟨g6, f6, none⟩) Fl.length cap6), .some (.int .i64 (k : Int)), .some (.pointer (some ⟨g6, f6 + k * 3, none⟩)), .some (.agg #[.int .i64 pf.x, .int .i64 pf.y, .int .i64 pf.z]), .some (.agg #[.int .i64 np.x, .int .i64 np.y, .int .i64 np.z]), none, none, none] [40, 41, 42, 43, 44, 45, 46, 47, 48, 49, 50, 51, 52, 53, 6] [(2, .pointer (some ⟨cb, 0, none⟩)), (3, .pointer (some ⟨db, 0, none⟩)), (6, .int .i64 (i : Int)), (7, .int .i64 (k : Int))] (fun γ L w => A10 12 13 14 wr n0 (.slice o N.length c) N.length (fl3 N) [.int .i64 np.x, .int .i64 np.y, .int .i64 np.z] γ L w) (by kernel_rfl) (by kernel_rfl) (by kernel_rfl) (by kernel_rfl) (by kernel_rfl) (by kernel_rfl) (by kernel_rfl) ⟨rfl, rfl, rfl, rfl, trivial⟩ ?_ ?_ ?_
          · exact A10.start rfl rfl rfl (Below.refl _ wr).drew
          · intro D WA Z hD hWA hZ T
            simp only [RV.Outs, RV.Slots, Nat.reduceAdd] at T
            have X5 : ∀ j, D j = some 5 → j = 14 := fun j hj => by rw [← hD] at hj; exact dst_once (by kernel_rfl) hj rfl
            have Y5 : Z.tmps[5]? = some (.slice o N.length c) := by rw [← hZ]; rfl
            refine RV.AllDo.cons _ (RV.does_pure (fun γ v L w hl h => A10.other h _ (by decide) (by decide) (by decide)) (fun γ L a w hH hl hA => by have e0 := (hH.early 5 (fun j hj => by rw [X5 j hj]; exact RV.not_yet hH (RV.wt (j := 14) (i := 0) hWA (by kernel_rfl)) hl)).trans Y5; exact ⟨_, by simp [execOp, go_sem, e0], rfl⟩)) ?_
            (refine RV.AllDo.cons _ (RV.pu T (fun γ v L w hl h => A10.other h _ (by decide) (by decide) (by decide)) (fun γ L a w hH hl h9 k9 => ⟨_, ?_, rfl⟩)) ?_; · simp [execOp, go_sem, h9])
            refine RV.AllDo.cons _ (RV.does_pure (fun γ v L w hl h => A10.other h _ (by decide) (by decide) (by decide)) (fun γ L a w hH hl hA => by have h9 := T γ L a w hH; have k9 := hA; simp [Region.binds] at k9; have z09 := c_after (A10.early hH.glob (RV.not_yet hH (RV.wt (j := 13) (i := 12) hWA (by kernel_rfl)) (RV.not_yet hH (RV.wt (j := 12) (i := 11) hWA (by kernel_rfl)) (RV.not_yet hH (RV.wt (j := 11) (i := 5) hWA (by kernel_rfl)) (RV.not_yet hH (RV.wt (j := 5) (i := 4) hWA (by kernel_rfl)) (RV.not_yet hH (RV.wt (j := 4) (i := 2) hWA (by kernel_rfl)) hl)))))).1 qa; exact ⟨_, by simp [execOp, go_sem, h9, z09, k9], rfl⟩)) ?_
            iterate 2 first
              | (refine RV.AllDo.cons _ (RV.pu T (fun γ v L w hl h => A10.other h _ (by decide) (by decide) (by decide)) (fun γ L a w hH hl h9 k9 => ⟨_, ?_, rfl⟩)) ?_; · simp [execOp, go_sem, h9])
              | (refine RV.AllDo.cons _ (RV.pu T (fun γ v L w hl h => A10.other h _ (by decide) (by decide) (by decide)) (fun γ L a w hH hl h9 k9 => ⟨_, ?_, rfl⟩)) ?_; · simp [Region.binds] at k9; simp [execOp, go_sem, h9, k9, hit])
            refine RV.AllDo.cons _ (RV.does_pure (fun γ v L w hl h => A10.other h _ (by decide) (by decide) (by decide)) (fun γ L a w hH hl hA => by have h9 := T γ L a w hH; have k9 := hA; simp [Region.binds] at k9; have z09 := c_after (A10.early hH.glob (RV.not_yet hH (RV.wt (j := 13) (i := 12) hWA (by kernel_rfl)) (RV.not_yet hH (RV.wt (j := 12) (i := 11) hWA (by kernel_rfl)) (RV.not_yet hH (RV.wt (j := 11) (i := 5) hWA (by kernel_rfl)) hl)))).1 x0; have z19 := c_after (A10.early hH.glob (RV.not_yet hH (RV.wt (j := 13) (i := 12) hWA (by kernel_rfl)) (RV.not_yet hH (RV.wt (j := 12) (i := 11) hWA (by kernel_rfl)) (RV.not_yet hH (RV.wt (j := 11) (i := 5) hWA (by kernel_rfl)) hl)))).1 x1; have z29 := c_after (A10.early hH.glob (RV.not_yet hH (RV.wt (j := 13) (i := 12) hWA (by kernel_rfl)) (RV.not_yet hH (RV.wt (j := 12) (i := 11) hWA (by kernel_rfl)) (RV.not_yet hH (RV.wt (j := 11) (i := 5) hWA (by kernel_rfl)) hl)))).1 x2; exact ⟨_, by simp [execOp, go_sem, h9, z09, z19, z29, k9], rfl⟩)) ?_
            (refine RV.AllDo.cons _ (RV.pu T (fun γ v L w hl h => A10.other h _ (by decide) (by decide) (by decide)) (fun γ L a w hH hl h9 k9 => ⟨_, ?_, rfl⟩)) ?_; · simp [execOp, go_sem, h9])
            refine RV.AllDo.cons _ (RV.does_pure (fun γ v L w hl h => A10.other h _ (by decide) (by decide) (by decide)) (fun γ L a w hH hl hA => by have h9 := T γ L a w hH; have k9 := hA; simp [Region.binds] at k9; have z09 := c_after (A10.early hH.glob (RV.not_yet hH (RV.wt (j := 13) (i := 12) hWA (by kernel_rfl)) (RV.not_yet hH (RV.wt (j := 12) (i := 11) hWA (by kernel_rfl)) (RV.not_yet hH (RV.wt (j := 11) (i := 10) hWA (by kernel_rfl)) (RV.not_yet hH (RV.wt (j := 10) (i := 9) hWA (by kernel_rfl)) (RV.not_yet hH (RV.wt (j := 9) (i := 7) hWA (by kernel_rfl)) hl)))))).1 qb; exact ⟨_, by simp [execOp, go_sem, h9, z09, k9], rfl⟩)) ?_
            iterate 2 first
              | (refine RV.AllDo.cons _ (RV.pu T (fun γ v L w hl h => A10.other h _ (by decide) (by decide) (by decide)) (fun γ L a w hH hl h9 k9 => ⟨_, ?_, rfl⟩)) ?_; · simp [execOp, go_sem, h9])
              | (refine RV.AllDo.cons _ (RV.pu T (fun γ v L w hl h => A10.other h _ (by decide) (by decide) (by decide)) (fun γ L a w hH hl h9 k9 => ⟨_, ?_, rfl⟩)) ?_; · simp [Region.binds] at k9; simp [execOp, go_sem, h9, k9, hit2])
            refine RV.AllDo.cons _ (RV.does_pure (fun γ v L w hl h => A10.other h _ (by decide) (by decide) (by decide)) (fun γ L a w hH hl hA => by have h9 := T γ L a w hH; have k9 := hA; simp [Region.binds] at k9; have z09 := c_after (A10.early hH.glob (RV.not_yet hH (RV.wt (j := 13) (i := 12) hWA (by kernel_rfl)) (RV.not_yet hH (RV.wt (j := 12) (i := 11) hWA (by kernel_rfl)) (RV.not_yet hH (RV.wt (j := 11) (i := 10) hWA (by kernel_rfl)) hl)))).1 y0; have z19 := c_after (A10.early hH.glob (RV.not_yet hH (RV.wt (j := 13) (i := 12) hWA (by kernel_rfl)) (RV.not_yet hH (RV.wt (j := 12) (i := 11) hWA (by kernel_rfl)) (RV.not_yet hH (RV.wt (j := 11) (i := 10) hWA (by kernel_rfl)) hl)))).1 y1; have z29 := c_after (A10.early hH.glob (RV.not_yet hH (RV.wt (j := 13) (i := 12) hWA (by kernel_rfl)) (RV.not_yet hH (RV.wt (j := 12) (i := 11) hWA (by kernel_rfl)) (RV.not_yet hH (RV.wt (j := 11) (i := 10) hWA (by kernel_rfl)) hl)))).1 y2; exact ⟨_, by simp [execOp, go_sem, h9, z09, z19, z29, k9], rfl⟩)) ?_
            refine RV.AllDo.cons _ (RV.does_call (fun γ L a w hH hl hA => by have h9 := T γ L a w hH; have k9 := hA; simp [Region.binds] at k9; have q9 : L 13 = false := (RV.not_yet hH (RV.wt (j := 13) (i := 12) hWA (by kernel_rfl)) (RV.not_yet hH (RV.wt (j := 12) (i := 11) hWA (by kernel_rfl)) hl)); exact ⟨75, #[.agg #[.int .i64 pe.x, .int .i64 pe.y, .int .i64 pe.z], .agg #[.int .i64 pf.x, .int .i64 pf.y, .int .i64 pf.z]], by simp [go_sem, h9, k9], Calls.mono (HXX.out w) (by rintro e w2 ⟨rfl, hb⟩; exact ⟨_, rfl, rfl, fun j v _ h => h.keep _, A10.call hH.glob q9 hb _ (by decide) (by decide) (by decide)⟩)⟩)) ?_
            refine RV.AllDo.cons _ (RV.does_step (fun γ L a w hH hl hA => by have h9 := T γ L a w hH; have k9 := hA; simp [Region.binds] at k9; exact ⟨.slice (some ⟨w.heap.size, 0, none⟩) 1 1, w.alloc (.cells #[.int .i64 np.x, .int .i64 np.y, .int .i64 np.z] 23), by simp [execOp, go_sem, h9, k9], trivial, fun j v _ h => h.keep _, A10.lay hH.glob (RV.not_yet hH (RV.wt (j := 13) (i := 12) hWA (by kernel_rfl)) hl) (by decide) (by decide)⟩)) ?_
            refine RV.AllDo.cons _ (RV.does_step (fun γ L a w hH hl hA => by have h9 := T γ L a w hH; have k9 := hA; simp [Region.binds] at k9; have l1 : L 12 = true := hA ⟨12, .data⟩ (by simp) rfl; have e1 := hH.slot 12 51 (by rw [← hD]; rfl) l1; obtain ⟨y2, y3⟩ := A10.early hH.glob hl; obtain ⟨g9, t1, t2⟩ := y3 l1; rw [t1] at e1; have q9 : L 14 = false := RV.not_yet hH (RV.wt (j := 14) (i := 13) hWA (by kernel_rfl)) hl; obtain ⟨v9, w9, t3, t4, t5⟩ := exec_append (P := Tryz.prog) (w := w) (a := a) (.tmp 39) (.tmp 51) 24 24 n0 23 i0 _ 3 24 Tryz.underlying24 HI.out.1 HI.out.2.1 HI.out.2.2.1 HI.out.2.2.2 rfl (by decide) (.slice o N.length c) N.length (fl3 N) (by simp [go_sem, h9, k9]) (own_below HK.out.own y2) ⟨g9, 0, none⟩ 1 1 [.int .i64 np.x, .int .i64 np.y, .int .i64 np.z] (by simp [go_sem, e1]) rfl (news_at t2) (by intro u hu; simp at hu; rcases hu with rfl | rfl | rfl <;> rfl) (by unfold maxLen; omega) (by omega) (Nat.le_trans HK.out.hx y2.size); exact ⟨v9, w9, t3 _ rfl rfl, trivial, fun j v _ h => h.keep _, A10.app q9 (by decide) t4 ((Grew.below y2 _).trans t5)⟩)) ?_
            refine RV.AllDo.cons _ (RV.does_step (fun γ L a w hH hl hA => by have l0 : L 13 = true := hA ⟨13, .data⟩ (by simp) rfl; have e0 := hH.slot 13 52 (by rw [← hD]; rfl) l0; exact ⟨γ 13, w, by simp [execOp, go_sem, e0], trivial, fun j v _ h => h, A10.set hH.glob (by decide) (by decide)⟩)) ?_
            exact RV.AllDo.nil
          · intro γ w5 L9 hL hI9 hG9
            obtain ⟨y3, y1, y2⟩ := A10.done hG9 (hL 13 (by decide)) (hL 14 (by decide))
            clear hL hI9 hG9
            simp only [RV.putL, Act.put, List.setIfInBounds_toArray, List.set_cons_zero, List.set_cons_succ, Nat.reduceAdd]
            rw [y3]
            have HK2 : Hid _ := HK.out.app np y1 y2
            clear y1 y2 y3 HK
            generalize γ 13 = u9 at *
            obtain ⟨o9, c9, rfl⟩ := rowp_form HK2.out.own
            clear x0 x1 x2 y0 y1 y2 qa qb HXX
            go_wp2_with (fail)
            go_roundg (Fl.length - (k + 1))
            case measure => have := HG2.out; omega
            case rel => exact ⟨k + 1, o9, c9, N ++ [np], rfl, by go_num, by omega, by rw [List.length_append]; simp; omega, rfl, HK2, HNX⟩
        · obtain rfl : k = Fl.length := by omega
          have q3 := HK.out.at HM2.out 2 _ rfl
          have HE : Hid _ := HEN.out _ HE.out
          go_wp2_with (fail)
          clear q3
          go_roundg (E.length - (i + 1))
          case measure => have := HG.out; omega
          case rel => exact ⟨i + 1, o, c, N, rfl, by go_num, by omega, by omega, rfl, HK, HE⟩
    · obtain rfl : i = E.length := by omega
      have q2 := HK.out.at HM1.out 2 _ rfl
      have q0 := HK.out.at HM1.out 0 _ rfl
      have r0 := HK.out.at HM2.out 0 _ rfl
      have HE : Hid (M = M1 ++ crossL E Fl) := by show _ = _; rw [HE.out, List.take_length]
      have hM9 : M.length ≤ 16640 := by omega
      clear HCE HCF HCX
      obtain ⟨tt, htt⟩ : ∃ t, decide (P.length ≤ 2 ∨ Q.length ≤ 2) = t := ⟨_, rfl⟩
      have HTT : Hid _ := htt
      go_upto_region 11 with fail
      clear q2
      go_cut [62] from 53 to 61 (fun s62 wx => s62 = .bool tt ∧ wx = wr)
      case first =>
        by_cases h1 : P.length ≤ 2
        · have e9 : tt = true := by rw [← htt]; exact decide_eq_true (Or.inl h1)
          subst e9
          clear htt
          go_wp2_with (fail)
          go_meet
          case rel => exact ⟨by first | rfl | (congr 1; simp; omega), rfl⟩
        · by_cases h2 : Q.length ≤ 2
          · have e9 : tt = true := by rw [← htt]; exact decide_eq_true (Or.inr h2)
            subst e9
            clear htt
            go_wp2_with (fail)
            go_meet
            case rel => exact ⟨by first | rfl | (congr 1; simp; omega), rfl⟩
          · have e9 : tt = false := by rw [← htt]; exact decide_eq_false (by omega)
            subst e9
            clear htt
            go_wp2_with (fail)
            go_meet
            case rel => exact ⟨by first | rfl | (congr 1; simp; omega), rfl⟩
      case rest =>
        obtain ⟨rfl, e9⟩ := hcut
        subst e9
        clear q0 r0 htt
        go_upto_if 62 with fail
        go_cut [5, 8, 9, 10, 11, 12, 13] from 63 to 122 (fun s5 s8 s9 s10 s11 s12 s13 wx => ∃ (o : Option Addr) (c : Nat) (M' : List Pt), s5 = .slice o M'.length c ∧ M'.length ≤ 279808 ∧ Hid (CK w0 wx n0 BS (.slice o M'.length c) M' (.slice none 0 0) []) ∧ Hid (M' = M ++ wayL P Q EE))
        case first =>
          cases tt with
          | false =>
            have HW : Hid (wayL P Q EE = []) := by
              show _ = _
              have h9 := of_decide_eq_false HTT.out
              unfold wayL
              rw [if_pos (by omega)]
            go_wp2_with (fail)
            go_meet
            case rel => exact ⟨o, c, M, rfl, by omega, HK, by show _ = _; rw [HW.out, List.append_nil]⟩
          | true =>
            have HW : Hid (wayL P Q EE = P.flatMap fun p => wayR Q EE p) := by
              show _ = _
              have h9 := of_decide_eq_true HTT.out
              unfold wayL
              rw [if_neg (by omega)]
            have HK : Hid _ := HK.out.alone.swap
            have qe := HK.out.at HM1.out 2 _ rfl
            go_upto_region 14 with (at_builtin; refine append_lies rfl _ _ rfl n0 _ [] rfl HK.out.own _ E rfl (HLE.out.below HK.out.below) (by first | omega | (simp; omega)) HK.out.hx ?_; intro u3 V3 r3 gw3 sg3; have r3 : V3.ownsRow n0 23 3 u3 E.length (fl3 E) := r3; obtain ⟨p3, c3, e3⟩ := rowp_form r3; subst e3)
            have HK : Hid _ := HK.out.grew r3 (grewOf gw3 sg3)
            clear qe r3 gw3 sg3
            have qe := HK.out.at HM2.out 2 _ rfl
            go_upto_region 15 with (at_builtin; refine append_lies rfl _ _ rfl n0 _ E rfl HK.out.own _ Fl rfl (HLF.out.below HK.out.below) (by first | omega | (simp; omega)) HK.out.hx ?_; intro u4 V4 r4 gw4 sg4; rw [← HEE.out] at r4; obtain ⟨oe, ce, e4⟩ := rowp_form r4; subst e4)
            have HK : Hid _ := (HK.out.grew r4 (grewOf gw4 sg4)).swap
            clear qe r4 gw4 sg4 HLE HLF
            obtain ⟨fR, hfR⟩ : ∃ g : Pt → List Pt, g = fun p => wayR Q EE p := ⟨_, rfl⟩
            rw [← hfR] at HW
            have HFR : Hid (∀ p, fR p = Q.flatMap fun q => wayG EE p q) := fun p => by rw [hfR]; rfl
            clear hfR
            go_wp2_with (fail)
            go_loopg [5, 9, 10, 11, 12, 13] P.length (fun gm s5 s9 s10 s11 s12 s13 wr => ∃ (i : Nat) (o : Option Addr) (c : Nat) (N : List Pt), s5 = .slice o N.length c ∧ s9 = .int .i64 (i : Int) ∧ i ≤ P.length ∧ N.length ≤ 16640 + i * 8224 ∧ Hid (gm = P.length - i) ∧ Hid (CK w0 wr n0 BS (.slice o N.length c) N (.slice oe EE.length ce) EE) ∧ Hid (N = M ++ (P.take i).flatMap fR))
            case atStart => exact ⟨0, o, c, M, rfl, rfl, Nat.zero_le _, by omega, rfl, HK, by show _ = _; simp⟩
            case round =>
              clear HK
              obtain ⟨i, o, c, N, rfl, rfl, hi9, hN9, HG, HK, HE3⟩ := hrel
              have q0 := HK.out.at HM1.out 0 _ rfl
              by_cases hit : i < P.length
              · obtain ⟨fG, hfG⟩ : ∃ g : Pt → List Pt, g = fun q => wayG EE (pt P i) q := ⟨_, rfl⟩
                have HEN : Hid (∀ X, X = N ++ (Q.take Q.length).flatMap fG → X = M ++ (P.take (i + 1)).flatMap fR) := fun X hX => by rw [hX, List.take_length, hfG, HE3.out, flat_take fR P hit, HFR.out, List.append_assoc]
                have HFG : Hid (∀ q, fG q = wayD (pt P i) q :: EE.map fun e => wayE (wayD (pt P i) q) e) := fun q => by rw [hfG]; rfl
                clear hfG HE3
                go_wp2_with (fail)
                clear q0
                go_loopg [5, 10, 11, 12, 13] Q.length (fun gm s5 s10 s11 s12 s13 wr => ∃ (k : Nat) (o : Option Addr) (c : Nat) (N2 : List Pt), s5 = .slice o N2.length c ∧ s10 = .int .i64 (k : Int) ∧ k ≤ Q.length ∧ N2.length ≤ 16640 + i * 8224 + k * 257 ∧ Hid (gm = Q.length - k) ∧ Hid (CK w0 wr n0 BS (.slice o N2.length c) N2 (.slice oe EE.length ce) EE) ∧ Hid (N2 = N ++ (Q.take k).flatMap fG))
                case atStart => exact ⟨0, o, c, N, rfl, rfl, Nat.zero_le _, by omega, rfl, HK, by show _ = _; simp⟩
                case round =>
                  clear HK
                  obtain ⟨k, o, c, N2, rfl, rfl, hk9, hN29, HG2, HK, HE3⟩ := hrel
                  have rr0 := HK.out.at HM2.out 0 _ rfl
                  by_cases hit2 : k < Q.length
                  · obtain ⟨ga, fa, rfl, x0, x1, x2⟩ := HCP.out i hit
                    obtain ⟨gb, fb, rfl, y0, y1, y2⟩ := HCQ.out k hit2
                    have x0 := c_after HK.out.below x0
                    have x1 := c_after HK.out.below x1
                    have x2 := c_after HK.out.below x2
                    have y0 := c_after HK.out.below y0
                    have y1 := c_after HK.out.below y1
                    have y2 := c_after HK.out.below y2
                    have q0 := HK.out.at HM1.out 0 _ rfl
                    have HXX : Hid _ := HMI.out i k hit hit2
                    have HYY : Hid _ := HSH.out ((pt Q k).sub (pt P i))
                    have HFK : Hid _ := HFG.out (pt Q k)
                    have HDE : Hid (wayD (pt P i) (pt Q k) = ((pt Q k).sub (pt P i)).short) := rfl
                    have HC2d : Hid _ := HC2.out ((pt Q k).sub (pt P i))
                    rw [← HDE.out] at HYY HC2d
                    obtain ⟨dd, hdd⟩ : ∃ x, wayD (pt P i) (pt Q k) = x := ⟨_, rfl⟩
                    rw [hdd] at HYY HFK HC2d
                    obtain ⟨sd, hsd⟩ : ∃ x, (pt Q k).sub (pt P i) = x := ⟨_, rfl⟩
                    rw [hsd] at HXX HYY
                    obtain ⟨pp, hpp⟩ : ∃ x, pt P i = x := ⟨_, rfl⟩
                    obtain ⟨pq, hpq⟩ : ∃ x, pt Q k = x := ⟨_, rfl⟩
                    rw [hpp] at x0 x1 x2 HXX
                    rw [hpq] at y0 y1 y2 HXX
                    have HQN : Hid (∀ X, X = (N2 ++ [dd]) ++ (EE.take EE.length).map (fun e => wayE dd e) → X = N ++ (Q.take (k + 1)).flatMap fG) := fun X hX => by rw [hX, List.take_length, HE3.out, flat_take fG Q hit2, HFK.out, List.append_assoc, List.append_assoc]; rfl
                    clear hdd hsd hpp hpq HDE HFK HE3
                    unfold Pt.v at HXX HYY HC2d
                    go_upto_region 21 with fail
                    clear rr0
                    have rr0 := HK.out.at HM2.out 0 _ rfl
                    refine RV.region_is [.some (.pointer (some ⟨db, 0, none⟩)), .some (.slice (some ⟨gb, fb, none⟩) Q.length cap4), .some (.int .i64 (k : Int)), .some (.pointer (some ⟨gb, fb + k * 3, none⟩)), .some (.agg #[.int .i64 pq.x, .int .i64 pq.y, .int .i64 pq.z]), .some (.pointer (some ⟨cb, 0, none⟩)), .some (.slice (some ⟨ga, fa, none⟩) P.length cap1), .some (.int .i64 (i : Int)), .some (.pointer (some ⟨ga, fa + i * 3, none⟩)), .some (.agg #[.int .i64 pp.x, .int .i64 pp.y, .int .i64 pp.z]), .some (.agg #[.int .i64 sd.x, .int .i64 sd.y, .int .i64 sd.z]), .some (.agg #[.int .i64 dd.x, .int .i64 dd.y, .int .i64 dd.z]), none, none] [86, 87, 88, 89, 90, 91, 92, 93, 94, 95, 96, 97, 12, 0] [(2, .pointer (some ⟨cb, 0, none⟩)), (3, .pointer (some ⟨db, 0, none⟩)), (9, .int .i64 (i : Int)), (10, .int .i64 (k : Int))] (fun γ L w => Below wr.heap.size wr w ∧ RV.Pend wr 23 12 13 #[.int .i64 dd.x, .int .i64 dd.y, .int .i64 dd.z] γ L w) (by kernel_rfl) (by kernel_rfl) (by kernel_rfl) (by kernel_rfl) (by kernel_rfl) (by kernel_rfl) (by kernel_rfl) ⟨rfl, rfl, rfl, rfl, trivial⟩ ?_ ?_ ?_
                    · exact ⟨(Below.refl _ wr).drew, RV.Pend.start rfl⟩
                    · intro D WA Z hD hWA hZ T
                      simp only [RV.Outs, RV.Slots, Nat.reduceAdd] at T
                      iterate 10 first
                        | (refine RV.AllDo.cons _ (RV.pu T (fun γ v L w hl h => ⟨h.1, h.2.other v (by decide) (by decide)⟩) (fun γ L a w hH hl h9 k9 => ⟨_, ?_, rfl⟩)) ?_; · simp [execOp, go_sem, h9])
                        | (refine RV.AllDo.cons _ (RV.pu T (fun γ v L w hl h => ⟨h.1, h.2.other v (by decide) (by decide)⟩) (fun γ L a w hH hl h9 k9 => ⟨_, ?_, rfl⟩)) ?_; · have z0' := c_after hH.glob.1 rr0; have z1' := c_after hH.glob.1 y0; have z2' := c_after hH.glob.1 y1; have z3' := c_after hH.glob.1 y2; have z4' := c_after hH.glob.1 q0; have z5' := c_after hH.glob.1 x0; have z6' := c_after hH.glob.1 x1; have z7' := c_after hH.glob.1 x2; simp [Region.binds] at k9; simp [execOp, go_sem, h9, k9, z0', hit2, z1', z2', z3', z4', hit, z5', z6', z7'])
                      refine RV.AllDo.cons _ (RV.does_call (fun γ L a w hH hl hA => by have h9 := T γ L a w hH; have k9 := hA; simp [Region.binds] at k9; exact ⟨8, #[.agg #[.int .i64 pq.x, .int .i64 pq.y, .int .i64 pq.z], .agg #[.int .i64 pp.x, .int .i64 pp.y, .int .i64 pp.z]], by simp [go_sem, h9, k9], Calls.mono (HXX.out w) (by rintro e w2 ⟨rfl, hb⟩; exact ⟨_, rfl, rfl, fun j v _ h => h.keep _, hH.glob.1.trans (hb.mono hH.glob.1.size), (hH.glob.2.below hb).other _ (by decide) (by decide)⟩)⟩)) ?_
                      refine RV.AllDo.cons _ (RV.does_call (fun γ L a w hH hl hA => by have h9 := T γ L a w hH; have k9 := hA; simp [Region.binds] at k9; exact ⟨74, #[.agg #[.int .i64 sd.x, .int .i64 sd.y, .int .i64 sd.z]], by simp [go_sem, h9, k9], Calls.mono (HYY.out w) (by rintro e w2 ⟨rfl, hb⟩; exact ⟨_, rfl, rfl, fun j v _ h => h.keep _, hH.glob.1.trans (hb.mono hH.glob.1.size), (hH.glob.2.below hb).other _ (by decide) (by decide)⟩)⟩)) ?_
                      refine RV.AllDo.cons _ (RV.does_step (fun γ L a w hH hl hA => by have h10 : L 13 = false := RV.not_yet hH (RV.wt (j := 13) (i := 12) hWA (by kernel_rfl)) hl; exact ⟨.pointer (some ⟨w.heap.size, 0, none⟩), w.alloc (.cells #[.int .i64 0, .int .i64 0, .int .i64 0] 23), by simp [execOp, go_sem], trivial, fun j v _ h => h.keep _, hH.glob.1.alloc hH.glob.1.size _, RV.Pend.made _ rfl hH.glob.1.size h10 (by decide)⟩)) ?_
                      refine RV.AllDo.cons _ (RV.does_store (fun γ L a w hH hl hA => by have h9 := T γ L a w hH; have k9 := hA; simp [Region.binds] at k9; have l0 : L 12 = true := hA ⟨12, .data⟩ (by simp) rfl; have e0 := hH.slot 12 11 (by rw [← hD]; rfl) l0; obtain ⟨b, cs, hb1, hb2, hb3, hb4, _⟩ := hH.glob.2 l0; rw [hb1] at e0; obtain ⟨u0, u1, u2, rfl⟩ := arr3 hb4; have z09 : w.cell? ⟨b, 0, none⟩ = some u0 := (by simp [World.cell?, hb3]); have z19 : w.cell? ⟨b, 1, none⟩ = some u1 := (by simp [World.cell?, hb3]); have z29 : w.cell? ⟨b, 2, none⟩ = some u2 := (by simp [World.cell?, hb3]); have zf : ∀ o, w.frozen? ⟨b, o, none⟩ = false := fun o => (by simp [World.frozen?, hb3]); exact ⟨(((w.setCell ⟨b, 0, none⟩ (.int .i64 dd.x)).setCell ⟨b, 1, none⟩ (.int .i64 dd.y)).setCell ⟨b, 2, none⟩ (.int .i64 dd.z)), by simp [execOp, go_sem, e0, z09, z19, z29, zf, h9, k9], trivial, fun j v _ h => h.keep _, ((hH.glob.1.setCell hb2 _).setCell hb2 _).setCell hb2 _, RV.Pend.filled hb1 hb2 (by have q0 := Go.heap_setCell_same w b 0 _ _ (.int .i64 dd.x) hb3; have q1 := Go.heap_setCell_same _ b 1 _ _ (.int .i64 dd.y) q0; have q2 := Go.heap_setCell_same _ b 2 _ _ (.int .i64 dd.z) q1; simpa using q2) (by decide) _⟩)) ?_
                      exact RV.AllDo.nil
                    · intro γ w5 L9 hL hI9 hG9
                      obtain ⟨bn, cs, hb1, hb2, hb3, _, hb5⟩ := hG9.2 (hL 12 (by decide))
                      rw [hb5 (hL 13 (by decide))] at hb3
                      have hB5 := hG9.1
                      clear hL hb5 hI9 hG9
                      simp only [RV.putL, Act.put, List.setIfInBounds_toArray, List.set_cons_zero, List.set_cons_succ, Nat.reduceAdd]
                      rw [hb1]
                      obtain ⟨W5, hW5⟩ : ∃ X : World, X = w5 := ⟨_, rfl⟩
                      rw [← hW5] at hB5 hb3 ⊢
                      have CB5 : Hid (Cel W5 bn [.int .i64 dd.x, .int .i64 dd.y, .int .i64 dd.z]) := fun k v e => by match k, e with | 0, e => cases e; simp [World.cell?, hb3] | 1, e => cases e; simp [World.cell?, hb3] | 2, e => cases e; simp [World.cell?, hb3]
                      have hbn : bn < W5.heap.size := (Array.getElem?_eq_some_iff.1 hb3).1
                      have HK : Hid _ := HK.out.add hB5 hb2 hbn CB5.out
                      clear hW5 hb1 hb3 hB5 hb2 hbn CB5
                      clear x0 x1 x2 y0 y1 y2 q0 rr0 HXX HYY
                      have dv0 := HK.out.at List.mem_cons_self 0 _ rfl
                      have dv1 := HK.out.at List.mem_cons_self 1 _ rfl
                      have dv2 := HK.out.at List.mem_cons_self 2 _ rfl
                      go_upto_region 22 with fail
                      go_cut [5] from 97 to 100 (fun s5 wx => ∃ (o9 : Option Addr) (c9 : Nat), s5 = .slice o9 (N2 ++ [dd]).length c9 ∧ Hid (CK w0 wx n0 ((bn, [.int .i64 dd.x, .int .i64 dd.y, .int .i64 dd.z]) :: BS) (.slice o9 (N2 ++ [dd]).length c9) (N2 ++ [dd]) (.slice oe EE.length ce) EE))
                      case first =>
                        go_wp2_with (at_builtin; refine wpList_append_own_at _ rfl _ _ 24 rfl n0 23 i0 _ 3 24 Tryz.underlying24 HI.out.1 HI.out.2.1 HI.out.2.2.1 HI.out.2.2.2 rfl (by decide) _ _ _ rfl (own_below HK.out.own (n_after W5 _)) ⟨W5.heap.size, 0, none⟩ 1 1 [.int .i64 dd.x, .int .i64 dd.y, .int .i64 dd.z] rfl rfl (news_at (heap_alloc_new W5 _)) (by intro u hu; simp at hu; rcases hu with rfl | rfl | rfl <;> rfl) (by unfold maxLen; omega) (by omega) (by have := HK.out.hx; simp; omega) ?_; intro u9 V9 r8 g8 _ s8; have HK9 : Hid _ := (HK.out.step (n_after W5 _)).app dd r8 (grewOf g8 s8); obtain ⟨o9, c9, e9⟩ := rowp_form HK9.out.own; subst e9; clear r8 g8 s8)
                        go_meet
                        case rel => exact ⟨o9, c9, by rw [List.length_append]; rfl, HK9⟩
                      case rest =>
                        obtain ⟨o9, c9, rfl, HK⟩ := hcut
                        clear dv0 dv1 dv2
                        have hl9 : (N2 ++ [dd]).length ≤ 16640 + i * 8224 + k * 257 + 1 := by rw [List.length_append]; simp; omega
                        go_wp2_with (fail)
                        go_loopg [5, 12, 13] EE.length (fun gm s5 s12 s13 wr => ∃ (m : Nat) (o : Option Addr) (c : Nat) (N3 : List Pt), s5 = .slice o N3.length c ∧ s12 = .int .i64 (m : Int) ∧ m ≤ EE.length ∧ N3.length ≤ 16640 + i * 8224 + k * 257 + 1 + m ∧ Hid (gm = EE.length - m) ∧ Hid (CK w0 wr n0 ((bn, [.int .i64 dd.x, .int .i64 dd.y, .int .i64 dd.z]) :: BS) (.slice o N3.length c) N3 (.slice oe EE.length ce) EE) ∧ Hid (N3 = (N2 ++ [dd]) ++ (EE.take m).map (fun e => wayE dd e)))
                        case atStart => exact ⟨0, o9, c9, _, rfl, rfl, Nat.zero_le _, by omega, rfl, HK, by show _ = _; simp⟩
                        case round =>
                          clear HK
                          obtain ⟨m, o, c, N3, rfl, rfl, hm9, hN39, HG3, HK, HE3⟩ := hrel
                          by_cases hit3 : m < EE.length
                          · obtain ⟨o', cap', e', _, _, hcl⟩ := (Lies.of_row HK.out.two).form
                            cases e'
                            obtain ⟨ge, fe, rfl, x0, x1, x2⟩ := hcl m hit3
                            clear hcl
                            have dv0 := HK.out.at List.mem_cons_self 0 _ rfl
                            have dv1 := HK.out.at List.mem_cons_self 1 _ rfl
                            have dv2 := HK.out.at List.mem_cons_self 2 _ rfl
                            have HXX : Hid _ := HC2d.out m hit3
                            have HYY : Hid _ := HSH.out ((pt EE m).cross dd)
                            have HZZ : Hid _ := HC3.out ((pt EE m).cross dd) m hit3
                            have HWE : Hid (wayE dd (pt EE m) = ((pt EE m).cross dd).short.cross (pt EE m)) := rfl
                            rw [← HWE.out] at HZZ
                            obtain ⟨np, hnp⟩ : ∃ x, wayE dd (pt EE m) = x := ⟨_, rfl⟩
                            have HNX : Hid (N3 ++ [np] = (N2 ++ [dd]) ++ (EE.take (m + 1)).map (fun e => wayE dd e)) := by show _ = _; rw [map_take _ EE hit3, hnp, HE3.out, List.append_assoc]
                            rw [hnp] at HZZ
                            obtain ⟨cx, hcx⟩ : ∃ x, (pt EE m).cross dd = x := ⟨_, rfl⟩
                            rw [hcx] at HXX HYY HZZ
                            obtain ⟨xx, hxx⟩ : ∃ x, cx.short = x := ⟨_, rfl⟩
                            rw [hxx] at HYY HZZ
                            obtain ⟨pe, hpe⟩ : ∃ x, pt EE m = x := ⟨_, rfl⟩
                            rw [hpe] at x0 x1 x2 HXX HZZ
                            have hpe9 := hpe
                            clear hnp hcx hxx hpe HWE HE3
                            unfold Pt.v at HYY HZZ
                            go_upto_region 26 with fail
                            refine RV.region_is [.some (.slice (some ⟨ge, fe, none⟩) EE.length ce), .some (.int .i64 (m : Int)), .some (.pointer (some ⟨ge, fe + m * 3, none⟩)), .some (.agg #[.int .i64 pe.x, .int .i64 pe.y, .int .i64 pe.z]), .some (.agg #[.int .i64 dd.x, .int .i64 dd.y, .int .i64 dd.z]), .some (.agg #[.int .i64 cx.x, .int .i64 cx.y, .int .i64 cx.z]), .some (.agg #[.int .i64 xx.x, .int .i64 xx.y, .int .i64 xx.z]), none, none] [108, 109, 110, 111, 112, 113, 114, 14, 0] [(8, .slice (some ⟨ge, fe, none⟩) EE.length ce), (11, .pointer (some ⟨bn, 0, none⟩)), (12, .int .i64 (m : Int))] (fun γ L w => Below wr.heap.size wr w ∧ RV.Pend wr 23 7 8 #[.int .i64 xx.x, .int .i64 xx.y, .int .i64 xx.z] γ L w) (by kernel_rfl) (by kernel_rfl) (by kernel_rfl) (by kernel_rfl) (by kernel_rfl) (by kernel_rfl) (by kernel_rfl) ⟨rfl, rfl, rfl, trivial⟩ ?_ ?_ ?_
                            · exact ⟨(Below.refl _ wr).drew, RV.Pend.start rfl⟩
                            · intro D WA Z hD hWA hZ T
                              simp only [RV.Outs, RV.Slots, Nat.reduceAdd] at T
                              iterate 5 first
                                | (refine RV.AllDo.cons _ (RV.pu T (fun γ v L w hl h => ⟨h.1, h.2.other v (by decide) (by decide)⟩) (fun γ L a w hH hl h9 k9 => ⟨_, ?_, rfl⟩)) ?_; · have q0 := c_after hH.glob.1 dv0; have q1 := c_after hH.glob.1 dv1; have q2 := c_after hH.glob.1 dv2; simp [execOp, go_sem, h9, q0, q1, q2])
                                | (refine RV.AllDo.cons _ (RV.pu T (fun γ v L w hl h => ⟨h.1, h.2.other v (by decide) (by decide)⟩) (fun γ L a w hH hl h9 k9 => ⟨_, ?_, rfl⟩)) ?_; · have q0 := c_after hH.glob.1 x0; have q1 := c_after hH.glob.1 x1; have q2 := c_after hH.glob.1 x2; simp [Region.binds] at k9; simp [execOp, go_sem, h9, k9, hit3, q0, q1, q2])
                              refine RV.AllDo.cons _ (RV.does_call (fun γ L a w hH hl hA => by have h9 := T γ L a w hH; have k9 := hA; simp [Region.binds] at k9; exact ⟨75, #[.agg #[.int .i64 pe.x, .int .i64 pe.y, .int .i64 pe.z], .agg #[.int .i64 dd.x, .int .i64 dd.y, .int .i64 dd.z]], by simp [go_sem, h9, k9], Calls.mono (HXX.out w) (by rintro e w2 ⟨rfl, hb⟩; exact ⟨_, rfl, rfl, fun j v _ h => h.keep _, hH.glob.1.trans (hb.mono hH.glob.1.size), (hH.glob.2.below hb).other _ (by decide) (by decide)⟩)⟩)) ?_
                              refine RV.AllDo.cons _ (RV.does_call (fun γ L a w hH hl hA => by have h9 := T γ L a w hH; have k9 := hA; simp [Region.binds] at k9; exact ⟨74, #[.agg #[.int .i64 cx.x, .int .i64 cx.y, .int .i64 cx.z]], by simp [go_sem, h9, k9], Calls.mono (HYY.out w) (by rintro e w2 ⟨rfl, hb⟩; exact ⟨_, rfl, rfl, fun j v _ h => h.keep _, hH.glob.1.trans (hb.mono hH.glob.1.size), (hH.glob.2.below hb).other _ (by decide) (by decide)⟩)⟩)) ?_
                              refine RV.AllDo.cons _ (RV.does_step (fun γ L a w hH hl hA => by have h10 : L 8 = false := RV.not_yet hH (RV.wt (j := 8) (i := 7) hWA (by kernel_rfl)) hl; exact ⟨.pointer (some ⟨w.heap.size, 0, none⟩), w.alloc (.cells #[.int .i64 0, .int .i64 0, .int .i64 0] 23), by simp [execOp, go_sem], trivial, fun j v _ h => h.keep _, hH.glob.1.alloc hH.glob.1.size _, RV.Pend.made _ rfl hH.glob.1.size h10 (by decide)⟩)) ?_
                              refine RV.AllDo.cons _ (RV.does_store (fun γ L a w hH hl hA => by have h9 := T γ L a w hH; have k9 := hA; simp [Region.binds] at k9; have l0 : L 7 = true := hA ⟨7, .data⟩ (by simp) rfl; have e0 := hH.slot 7 13 (by rw [← hD]; rfl) l0; obtain ⟨b, cs, hb1, hb2, hb3, hb4, _⟩ := hH.glob.2 l0; rw [hb1] at e0; obtain ⟨u0, u1, u2, rfl⟩ := arr3 hb4; have z09 : w.cell? ⟨b, 0, none⟩ = some u0 := (by simp [World.cell?, hb3]); have z19 : w.cell? ⟨b, 1, none⟩ = some u1 := (by simp [World.cell?, hb3]); have z29 : w.cell? ⟨b, 2, none⟩ = some u2 := (by simp [World.cell?, hb3]); have zf : ∀ o, w.frozen? ⟨b, o, none⟩ = false := fun o => (by simp [World.frozen?, hb3]); exact ⟨(((w.setCell ⟨b, 0, none⟩ (.int .i64 xx.x)).setCell ⟨b, 1, none⟩ (.int .i64 xx.y)).setCell ⟨b, 2, none⟩ (.int .i64 xx.z)), by simp [execOp, go_sem, e0, z09, z19, z29, zf, h9, k9], trivial, fun j v _ h => h.keep _, ((hH.glob.1.setCell hb2 _).setCell hb2 _).setCell hb2 _, RV.Pend.filled hb1 hb2 (by have q0 := Go.heap_setCell_same w b 0 _ _ (.int .i64 xx.x) hb3; have q1 := Go.heap_setCell_same _ b 1 _ _ (.int .i64 xx.y) q0; have q2 := Go.heap_setCell_same _ b 2 _ _ (.int .i64 xx.z) q1; simpa using q2) (by decide) _⟩)) ?_
                              exact RV.AllDo.nil
                            · intro γ w5 L9 hL hI9 hG9
                              obtain ⟨bn, cs, hb1, hb2, hb3, _, hb5⟩ := hG9.2 (hL 7 (by decide))
                              rw [hb5 (hL 8 (by decide))] at hb3
                              have hB5 := hG9.1
                              clear hL hb5 hI9 hG9
                              simp only [RV.putL, Act.put, List.setIfInBounds_toArray, List.set_cons_zero, List.set_cons_succ, Nat.reduceAdd]
                              rw [hb1]
                              obtain ⟨W5, hW5⟩ : ∃ X : World, X = w5 := ⟨_, rfl⟩
                              rw [← hW5] at hB5 hb3 ⊢
                              have CB5 : Hid (Cel W5 bn [.int .i64 xx.x, .int .i64 xx.y, .int .i64 xx.z]) := fun k v e => by match k, e with | 0, e => cases e; simp [World.cell?, hb3] | 1, e => cases e; simp [World.cell?, hb3] | 2, e => cases e; simp [World.cell?, hb3]
                              have hbn : bn < W5.heap.size := (Array.getElem?_eq_some_iff.1 hb3).1
                              have HK : Hid _ := HK.out.add hB5 hb2 hbn CB5.out
                              clear hW5 hb1 hb3 hB5 hb2 hbn CB5
                              clear x0 x1 x2 dv0 dv1 dv2 HXX HYY
                              obtain ⟨o'', cap'', e'', _, _, hcl⟩ := (Lies.of_row HK.out.two).form
                              cases e''
                              obtain ⟨ge', fe', e9', x0, x1, x2⟩ := hcl m hit3
                              cases e9'
                              rw [hpe9] at x0 x1 x2
                              clear hcl
                              have dv0 := HK.out.at List.mem_cons_self 0 _ rfl
                              have dv1 := HK.out.at List.mem_cons_self 1 _ rfl
                              have dv2 := HK.out.at List.mem_cons_self 2 _ rfl
                              go_upto_region 27 with fail
                              refine RV.region_is [.some (.slice o N3.length c), .some (.agg #[.int .i64 xx.x, .int .i64 xx.y, .int .i64 xx.z]), .some (.slice (some ⟨ge, fe, none⟩) EE.length ce), .some (.int .i64 (m : Int)), .some (.pointer (some ⟨ge, fe + m * 3, none⟩)), .some (.agg #[.int .i64 pe.x, .int .i64 pe.y, .int .i64 pe.z]), .some (.agg #[.int .i64 np.x, .int .i64 np.y, .int .i64 np.z]), none, none, none] [115, 116, 117, 118, 119, 120, 121, 122, 123, 6] [(8, .slice (some ⟨ge, fe, none⟩) EE.length ce), (12, .int .i64 (m : Int)), (13, .pointer (some ⟨bn, 0, none⟩))] (fun γ L w => A10 7 8 9 W5 n0 (.slice o N3.length c) N3.length (fl3 N3) [.int .i64 np.x, .int .i64 np.y, .int .i64 np.z] γ L w) (by kernel_rfl) (by kernel_rfl) (by kernel_rfl) (by kernel_rfl) (by kernel_rfl) (by kernel_rfl) (by kernel_rfl) ⟨rfl, rfl, rfl, trivial⟩ ?_ ?_ ?_
                              · exact A10.start rfl rfl rfl (Below.refl _ W5).drew
                              · intro D WA Z hD hWA hZ T
                                simp only [RV.Outs, RV.Slots, Nat.reduceAdd] at T
                                have X5 : ∀ j, D j = some 5 → j = 9 := fun j hj => by rw [← hD] at hj; exact dst_once (by kernel_rfl) hj rfl
                                have Y5 : Z.tmps[5]? = some (.slice o N3.length c) := by rw [← hZ]; rfl
                                refine RV.AllDo.cons _ (RV.does_pure (fun γ v L w hl h => A10.other h _ (by decide) (by decide) (by decide)) (fun γ L a w hH hl hA => by have e0 := (hH.early 5 (fun j hj => by rw [X5 j hj]; exact RV.not_yet hH (RV.wt (j := 9) (i := 0) hWA (by kernel_rfl)) hl)).trans Y5; exact ⟨_, by simp [execOp, go_sem, e0], rfl⟩)) ?_
                                refine RV.AllDo.cons _ (RV.does_pure (fun γ v L w hl h => A10.other h _ (by decide) (by decide) (by decide)) (fun γ L a w hH hl hA => by have h9 := T γ L a w hH; have z09 := c_after (A10.early hH.glob (RV.not_yet hH (RV.wt (j := 8) (i := 7) hWA (by kernel_rfl)) (RV.not_yet hH (RV.wt (j := 7) (i := 6) hWA (by kernel_rfl)) (RV.not_yet hH (RV.wt (j := 6) (i := 1) hWA (by kernel_rfl)) hl)))).1 dv0; have z19 := c_after (A10.early hH.glob (RV.not_yet hH (RV.wt (j := 8) (i := 7) hWA (by kernel_rfl)) (RV.not_yet hH (RV.wt (j := 7) (i := 6) hWA (by kernel_rfl)) (RV.not_yet hH (RV.wt (j := 6) (i := 1) hWA (by kernel_rfl)) hl)))).1 dv1; have z29 := c_after (A10.early hH.glob (RV.not_yet hH (RV.wt (j := 8) (i := 7) hWA (by kernel_rfl)) (RV.not_yet hH (RV.wt (j := 7) (i := 6) hWA (by kernel_rfl)) (RV.not_yet hH (RV.wt (j := 6) (i := 1) hWA (by kernel_rfl)) hl)))).1 dv2; exact ⟨_, by simp [execOp, go_sem, h9, z09, z19, z29], rfl⟩)) ?_
                                iterate 3 first
                                  | (refine RV.AllDo.cons _ (RV.pu T (fun γ v L w hl h => A10.other h _ (by decide) (by decide) (by decide)) (fun γ L a w hH hl h9 k9 => ⟨_, ?_, rfl⟩)) ?_; · simp [execOp, go_sem, h9])
                                  | (refine RV.AllDo.cons _ (RV.pu T (fun γ v L w hl h => A10.other h _ (by decide) (by decide) (by decide)) (fun γ L a w hH hl h9 k9 => ⟨_, ?_, rfl⟩)) ?_; · simp [Region.binds] at k9; simp [execOp, go_sem, h9, k9, hit3])
                                refine RV.AllDo.cons _ (RV.does_pure (fun γ v L w hl h => A10.other h _ (by decide) (by decide) (by decide)) (fun γ L a w hH hl hA => by have h9 := T γ L a w hH; have k9 := hA; simp [Region.binds] at k9; have z09 := c_after (A10.early hH.glob (RV.not_yet hH (RV.wt (j := 8) (i := 7) hWA (by kernel_rfl)) (RV.not_yet hH (RV.wt (j := 7) (i := 6) hWA (by kernel_rfl)) (RV.not_yet hH (RV.wt (j := 6) (i := 5) hWA (by kernel_rfl)) hl)))).1 x0; have z19 := c_after (A10.early hH.glob (RV.not_yet hH (RV.wt (j := 8) (i := 7) hWA (by kernel_rfl)) (RV.not_yet hH (RV.wt (j := 7) (i := 6) hWA (by kernel_rfl)) (RV.not_yet hH (RV.wt (j := 6) (i := 5) hWA (by kernel_rfl)) hl)))).1 x1; have z29 := c_after (A10.early hH.glob (RV.not_yet hH (RV.wt (j := 8) (i := 7) hWA (by kernel_rfl)) (RV.not_yet hH (RV.wt (j := 7) (i := 6) hWA (by kernel_rfl)) (RV.not_yet hH (RV.wt (j := 6) (i := 5) hWA (by kernel_rfl)) hl)))).1 x2; exact ⟨_, by simp [execOp, go_sem, h9, z09, z19, z29, k9], rfl⟩)) ?_
                                refine RV.AllDo.cons _ (RV.does_call (fun γ L a w hH hl hA => by have h9 := T γ L a w hH; have k9 := hA; simp [Region.binds] at k9; have q9 : L 8 = false := (RV.not_yet hH (RV.wt (j := 8) (i := 7) hWA (by kernel_rfl)) (RV.not_yet hH (RV.wt (j := 7) (i := 6) hWA (by kernel_rfl)) hl)); exact ⟨75, #[.agg #[.int .i64 xx.x, .int .i64 xx.y, .int .i64 xx.z], .agg #[.int .i64 pe.x, .int .i64 pe.y, .int .i64 pe.z]], by simp [go_sem, h9, k9], Calls.mono (HZZ.out w) (by rintro e w2 ⟨rfl, hb⟩; exact ⟨_, rfl, rfl, fun j v _ h => h.keep _, A10.call hH.glob q9 hb _ (by decide) (by decide) (by decide)⟩)⟩)) ?_
                                refine RV.AllDo.cons _ (RV.does_step (fun γ L a w hH hl hA => by have h9 := T γ L a w hH; have k9 := hA; simp [Region.binds] at k9; exact ⟨.slice (some ⟨w.heap.size, 0, none⟩) 1 1, w.alloc (.cells #[.int .i64 np.x, .int .i64 np.y, .int .i64 np.z] 23), by simp [execOp, go_sem, h9, k9], trivial, fun j v _ h => h.keep _, A10.lay hH.glob (RV.not_yet hH (RV.wt (j := 8) (i := 7) hWA (by kernel_rfl)) hl) (by decide) (by decide)⟩)) ?_
                                refine RV.AllDo.cons _ (RV.does_step (fun γ L a w hH hl hA => by have h9 := T γ L a w hH; have k9 := hA; simp [Region.binds] at k9; have l1 : L 7 = true := hA ⟨7, .data⟩ (by simp) rfl; have e1 := hH.slot 7 121 (by rw [← hD]; rfl) l1; obtain ⟨y2, y3⟩ := A10.early hH.glob hl; obtain ⟨g9, t1, t2⟩ := y3 l1; rw [t1] at e1; have q9 : L 9 = false := RV.not_yet hH (RV.wt (j := 9) (i := 8) hWA (by kernel_rfl)) hl; obtain ⟨v9, w9, t3, t4, t5⟩ := exec_append (P := Tryz.prog) (w := w) (a := a) (.tmp 114) (.tmp 121) 24 24 n0 23 i0 _ 3 24 Tryz.underlying24 HI.out.1 HI.out.2.1 HI.out.2.2.1 HI.out.2.2.2 rfl (by decide) (.slice o N3.length c) N3.length (fl3 N3) (by simp [go_sem, h9, k9]) (own_below HK.out.own y2) ⟨g9, 0, none⟩ 1 1 [.int .i64 np.x, .int .i64 np.y, .int .i64 np.z] (by simp [go_sem, e1]) rfl (news_at t2) (by intro u hu; simp at hu; rcases hu with rfl | rfl | rfl <;> rfl) (by unfold maxLen; omega) (by omega) (Nat.le_trans HK.out.hx y2.size); exact ⟨v9, w9, t3 _ rfl rfl, trivial, fun j v _ h => h.keep _, A10.app q9 (by decide) t4 ((Grew.below y2 _).trans t5)⟩)) ?_
                                refine RV.AllDo.cons _ (RV.does_step (fun γ L a w hH hl hA => by have l0 : L 8 = true := hA ⟨8, .data⟩ (by simp) rfl; have e0 := hH.slot 8 122 (by rw [← hD]; rfl) l0; exact ⟨γ 8, w, by simp [execOp, go_sem, e0], trivial, fun j v _ h => h, A10.set hH.glob (by decide) (by decide)⟩)) ?_
                                exact RV.AllDo.nil
                              · intro γ w5 L9 hL hI9 hG9
                                obtain ⟨y3, y1, y2⟩ := A10.done hG9 (hL 8 (by decide)) (hL 9 (by decide))
                                clear hL hI9 hG9
                                simp only [RV.putL, Act.put, List.setIfInBounds_toArray, List.set_cons_zero, List.set_cons_succ, Nat.reduceAdd]
                                rw [y3]
                                have HK2 : Hid _ := HK.out.app np y1 y2
                                clear y1 y2 y3 HK
                                generalize γ 8 = u9 at *
                                obtain ⟨o9, c9, rfl⟩ := rowp_form HK2.out.own
                                clear x0 x1 x2 dv0 dv1 dv2 HZZ hpe9
                                have HK2 : Hid _ := HK2.out.less
                                go_wp2_with (fail)
                                go_roundg (EE.length - (m + 1))
                                case measure => have := HG3.out; omega
                                case rel => exact ⟨m + 1, o9, c9, N3 ++ [np], rfl, by go_num, by omega, by rw [List.length_append]; simp; omega, rfl, HK2, HNX⟩
                          · obtain rfl : m = EE.length := by omega
                            have HE3 : Hid _ := HQN.out _ HE3.out
                            go_wp2_with (fail)
                            go_roundg (Q.length - (k + 1))
                            case measure => have := HG2.out; omega
                            case rel => exact ⟨k + 1, o, c, N3, rfl, by go_num, by omega, by omega, rfl, HK.out.less, HE3⟩
                  · obtain rfl : k = Q.length := by omega
                    have HE3 : Hid _ := HEN.out _ HE3.out
                    go_wp2_with (fail)
                    clear rr0
                    go_roundg (P.length - (i + 1))
                    case measure => have := HG.out; omega
                    case rel => exact ⟨i + 1, o, c, N2, rfl, by go_num, by omega, by omega, rfl, HK, HE3⟩
              · obtain rfl : i = P.length := by omega
                have HE3 : Hid (N = M ++ wayL P Q EE) := by show _ = _; rw [HE3.out, List.take_length, HW.out]
                go_wp2_with (fail)
                go_meet
                case rel => exact ⟨o, c, N, rfl, by omega, HK.out.alone, HE3⟩
        case rest =>
          obtain ⟨o, c, M', rfl, hM2, HK, HE2⟩ := hcut
          have HFIN : Hid (both (M'.take M'.length) = both (candL ⟨P, A, E, r⟩ ⟨Q, B, Fl, s⟩)) := by
            show _ = _
            unfold candL
            dsimp only
            rw [List.take_length, HE2.out, HE.out, HMA.out, HEE.out, List.append_assoc]
          clear HE HE2 HMA HEE
          have HK : Hid _ := HK.out.swap
          go_wp2_with (fail)
          go_loopg [14, 15, 16] M'.length (fun gm s14 s15 s16 wr => ∃ (i : Nat) (o2 : Option Addr) (c2 : Nat) (X : List Pt), s14 = .slice o2 X.length c2 ∧ s15 = .int .i64 (i : Int) ∧ i ≤ M'.length ∧ X.length ≤ 2 * i ∧ Hid (gm = M'.length - i) ∧ Hid (CK w0 wr n0 BS (.slice o2 X.length c2) X (.slice o M'.length c) M') ∧ Hid (X = both (M'.take i)))
          case atStart => exact ⟨0, none, 0, [], rfl, rfl, Nat.zero_le _, by simp, rfl, HK, by show _ = _; simp [both]⟩
          case round =>
            clear HK
            obtain ⟨i, o2, c2, X, rfl, rfl, hi9, hX9, HG, HK, HE⟩ := hrel
            by_cases hit : i < M'.length
            · obtain ⟨o', cap', e', _, _, hcl⟩ := (Lies.of_row HK.out.two).form
              cases e'
              obtain ⟨ge, fe, rfl, x0, x1, x2⟩ := hcl i hit
              clear hcl
              have HL1 : Hid _ := HLG.out (pt M' i)
              have hqi := lng_in (pt M' i)
              have HN0 : Hid ((pt M' i).lng = Pt.O → both (M'.take (i + 1)) = both (M'.take i)) := fun h => both_no M' hit h
              have HN1 : Hid ((pt M' i).lng ≠ Pt.O → both (M'.take (i + 1)) = both (M'.take i) ++ [(pt M' i).lng, (pt M' i).lng.neg]) := fun h => both_yes M' hit h
              obtain ⟨lq, hlq⟩ : ∃ x, (pt M' i).lng = x := ⟨_, rfl⟩
              rw [hlq] at HL1 hqi HN0 HN1
              clear hlq
              obtain ⟨pe, hpe⟩ : ∃ x, pt M' i = x := ⟨_, rfl⟩
              rw [hpe] at x0 x1 x2 HL1
              clear hpe
              obtain ⟨qx, qy, qz⟩ := lq
              unfold Pt.v at HL1
              dsimp only at HL1
              go_wp2_with (fail)
              refine Calls.mono (HL1.out _) ?_
              rintro e V7 ⟨rfl, hb⟩
              have HK : Hid _ := HK.out.step hb
              clear hb HL1 x0 x1 x2
              obtain ⟨V8, hV8⟩ : ∃ W, W = V7.alloc (.cells #[.int .i64 qx, .int .i64 qy, .int .i64 qz] 23) := ⟨_, rfl⟩
              obtain ⟨nb, hnb⟩ : ∃ b, b = V7.heap.size := ⟨_, rfl⟩
              have HB8 : Hid (Box3 V8 nb ⟨qx, qy, qz⟩) := by show Box3 _ _ _; rw [hV8, hnb]; exact Box3.new V7 qx qy qz _
              have HK : Hid _ := HK.out.step (n_after V7 (.cells #[.int .i64 qx, .int .i64 qy, .int .i64 qz] 23))
              rw [← hV8] at HK
              go_upto_region 33 with fail
              rw [← hV8, ← hnb]
              clear hV8 hnb
              obtain ⟨d0, d1, d2, _, _, _⟩ := HB8.out
              dsimp only at d0 d1 d2
              by_cases hz : (⟨qx, qy, qz⟩ : Pt) = Pt.O
              · have HE9 : Hid _ := HN0.out hz
                have e3 : qx = 0 ∧ qy = 0 ∧ qz = 0 := by simpa [Pt.O] using hz
                obtain ⟨rfl, rfl, rfl⟩ := e3
                clear HN0 HN1 hz hqi
                go_wp2_with (fail)
                clear d0 d1 d2
                go_roundg (M'.length - (i + 1))
                case measure => have := HG.out; omega
                case rel => exact ⟨i + 1, o2, c2, X, rfl, by go_num, by omega, by omega, rfl, HK, by show _ = _; rw [HE9.out]; exact HE.out⟩
              · have HE9 : Hid (both (M'.take (i + 1)) = X ++ [⟨qx, qy, qz⟩, ⟨-qx, -qy, -qz⟩]) := by show _ = _; rw [HN1.out hz, HE.out]; rfl
                have hz3 : qx = 0 → qy = 0 → ¬ qz = 0 := fun a b c => hz (by rw [a, b, c]; rfl)
                rw [Pt.inB_iff] at hqi
                dsimp only at hqi
                obtain ⟨mx, hmx⟩ : ∃ z, -qx = z := ⟨_, rfl⟩
                obtain ⟨my, hmy⟩ : ∃ z, -qy = z := ⟨_, rfl⟩
                obtain ⟨mz, hmz⟩ : ∃ z, -qz = z := ⟨_, rfl⟩
                have wx : IntKind.i64.wrap (-qx) = mx := by rw [hmx, IntKind.wrap_i64]; omega
                have wy : IntKind.i64.wrap (-qy) = my := by rw [hmy, IntKind.wrap_i64]; omega
                have wz : IntKind.i64.wrap (-qz) = mz := by rw [hmz, IntKind.wrap_i64]; omega
                rw [hmx, hmy, hmz] at HE9
                clear HN0 HN1 hz hqi hmx hmy hmz
                go_cut [136] from 123 to 150 (fun s136 wx => s136 = .bool true ∧ wx = V8)
                case first =>
                  clear wx wy wz
                  go_wp2_with (fail)
                  all_goals first
                    | (exfalso; exact hz3 (by assumption) (by assumption) (by assumption))
                    | (go_meet; case rel => exact ⟨rfl, rfl⟩)
                case rest =>
                  obtain ⟨rfl, e9⟩ := hcut
                  rw [e9]
                  clear hz3 e9
                  go_wp2_with (at_builtin; refine wpList_append_own_at _ rfl _ _ 24 rfl n0 23 i0 _ 3 24 Tryz.underlying24 HI.out.1 HI.out.2.1 HI.out.2.2.1 HI.out.2.2.2 rfl (by decide) _ _ _ rfl (own_below HK.out.own (n_after V8 _)) ⟨V8.heap.size, 0, none⟩ 2 2 [.int .i64 qx, .int .i64 qy, .int .i64 qz, .int .i64 mx, .int .i64 my, .int .i64 mz] rfl rfl (news_at6 (heap_alloc_new V8 _)) (by intro u hu; simp at hu; rcases hu with rfl | rfl | rfl | rfl | rfl | rfl <;> rfl) (by unfold maxLen; omega) (by omega) (by have := HK.out.hx; simp; omega) ?_; intro u9 V9 r8 g8 _ s8; have r9 : V9.ownsRow n0 23 3 u9 (X ++ ([⟨qx, qy, qz⟩, ⟨mx, my, mz⟩] : List Pt)).length (fl3 (X ++ ([⟨qx, qy, qz⟩, ⟨mx, my, mz⟩] : List Pt))) := (by rw [fl3_append, List.length_append]; exact r8); have HK9 : Hid _ := (HK.out.step (n_after V8 _)).grew r9 (grewOf g8 s8); obtain ⟨o9, c9, e9⟩ := rowp_form HK9.out.own; subst e9; clear r8 g8 s8 r9)
                  clear d0 d1 d2 wx wy wz
                  go_roundg (M'.length - (i + 1))
                  case measure => have := HG.out; omega
                  case rel => exact ⟨i + 1, o9, c9, X ++ [⟨qx, qy, qz⟩, ⟨mx, my, mz⟩], by rw [List.length_append]; rfl, by go_num, by omega, by rw [List.length_append]; simp; omega, rfl, HK9, by show _ = _; rw [HE9.out]⟩
            · obtain rfl : i = M'.length := by omega
              have HE : Hid (X = both (candL ⟨P, A, E, r⟩ ⟨Q, B, Fl, s⟩)) := by show _ = _; rw [HE.out, HFIN.out]
              go_wp2_with (fail)
              exact bodyPost_ret (v := .slice o2 X.length c2) (by simp [results, Tryz.results121, go_sem]) rfl ⟨_, rfl, by show Row _ _ _ _; rw [← HE.out]; exact ⟨own_le HK.out.own HK.out.hn, HK.out.below⟩⟩
end Go.Proofs.YtbhdfjoagajipaaGreat
