/- Package ccd: the place that is reckoned. -/
import Derived.Test.YtbhdfjoagajipaaGreatBBW9
import Derived.Test.YtbhdfjoagajipaaGreatBBW7
import Derived.Test.YtbhdfjoagajipaaGreatBBW10
import Derived.Test.YtbhdfjoagajipaaGreatBBW6
import Derived.Deep.MidRow
import Derived.Test.YtbhdfjoagajipaaGreatBBW5
namespace Go.Proofs.YtbhdfjoagajipaaGreat
open Go.RowKit Go.Shelf Fx
set_option linter.unusedVariables false

theorem nadd_any (b off : Nat) (f : Bool) (x y : Int) (W : World) (hc : W.cell? ⟨b, off, none⟩ = some (.bool f)) (hf : W.frozen? ⟨b, off, none⟩ = false) :
    Calls Tryz.prog 84 #[.pointer (some ⟨b, off, none⟩), .int .i64 x, .int .i64 y] W fun e W' => e = .returned (.int .i64 ((add x y).getD 0)) ∧ Hid (After ⟨b, off, none⟩ (f || (add x y).isNone) W W') :=
  (add_any b off f x y W hc hf).mono fun _ _ ⟨a, h⟩ => ⟨a, after_of h hc hf⟩
theorem nsub_any (b off : Nat) (f : Bool) (x y : Int) (W : World) (hc : W.cell? ⟨b, off, none⟩ = some (.bool f)) (hf : W.frozen? ⟨b, off, none⟩ = false) :
    Calls Tryz.prog 86 #[.pointer (some ⟨b, off, none⟩), .int .i64 x, .int .i64 y] W fun e W' => e = .returned (.int .i64 ((sub x y).getD 0)) ∧ Hid (After ⟨b, off, none⟩ (f || (sub x y).isNone) W W') :=
  (sub_any b off f x y W hc hf).mono fun _ _ ⟨a, h⟩ => ⟨a, after_of h hc hf⟩
theorem nratio_any (b off : Nat) (f : Bool) (x y z : Int) (W : World) (hc : W.cell? ⟨b, off, none⟩ = some (.bool f)) (hf : W.frozen? ⟨b, off, none⟩ = false) :
    Calls Tryz.prog 85 #[.pointer (some ⟨b, off, none⟩), .int .i64 x, .int .i64 y, .int .i64 z] W fun e W' => e = .returned (.int .i64 ((ratio x y z).getD 0)) ∧ Hid (After ⟨b, off, none⟩ (f || (ratio x y z).isNone) W W') :=
  (ratio_any b off f x y z W hc hf).mono fun _ _ ⟨a, h⟩ => ⟨a, after_of h hc hf⟩
set_option maxHeartbeats 2000000 in
set_option maxRecDepth 100000 in
theorem hgoes_any (f t k : Int) (ob pb : Nat) (fl : Bool) (W : World) (hc : W.cell? ⟨ob, 0, none⟩ = some (.bool fl)) (hf : W.frozen? ⟨ob, 0, none⟩ = false) (hk : W.cell? ⟨pb, 0, none⟩ = some (.int .i64 k)) (hne : pb ≠ ob) :
    Calls Tryz.prog 83 #[.int .i64 f, .int .i64 t, .pointer (some ⟨ob, 0, none⟩), .pointer (some ⟨pb, 0, none⟩)] W fun e W' => e = .returned (.int .i64 (goZ f t k)) ∧ Hid (After ⟨ob, 0, none⟩ (fl || goN f t k) W W') := by
  go_enter Tryz.func83, Tryz.ntmps83
  go_upto_region 1 with fail
  refine RV.rs [.some (.int .i64 (f)), .some (.int .i64 (t)), .some (.int .i64 (f)), .some (.int .i64 ((sub t f).getD 0)), .some (.int .i64 (k)), .some (.int .i64 ((goR f t k).getD 0)), .some (.int .i64 (goZ f t k)), .some (.int .i64 (goZ f t k))] [8, 9, 10, 11, 12, 13, 14, 7] [(0, .int .i64 (f)), (1, .int .i64 (t)), (2, .pointer (some ⟨ob, 0, none⟩)), (3, .pointer (some ⟨pb, 0, none⟩))] (fun γ L w => FG W ⟨ob, 0, none⟩ fl [(3, (sub t f).isNone), (5, (goR f t k).isNone), (6, (goA f t k).isNone)] L w) ⟨rfl, rfl, rfl, rfl, trivial⟩ (FG.start hc hf) ?_ ?_
  · intro D WA Z hD hWA hZ T
    simp only [RV.Outs, RV.Slots, Nat.reduceAdd] at T
    iterate 3 (refine RV.AllDo.cons _ (RV.pu T (fun γ v L w hl h => h.stay rfl) (fun γ L a w hH hl h9 k9 => ⟨_, ?_, rfl⟩)) ?_; · simp [execOp, go_sem, h9])
    refine RV.AllDo.cons _ (RV.does_call (fun γ L a w hH hl hA => by have h9 := T γ L a w hH; have k9 := hA; simp [Region.binds] at k9; exact ⟨_, _, by simp [go_sem, h9, k9], Calls.mono (nsub_any ob 0 _ t f w hH.glob.cell hH.glob.frozen) (by rintro e w2 ⟨rfl, ha⟩; exact ⟨_, rfl, rfl, fun j v _ h => h.keep _, hH.glob.come hl rfl ha.out⟩)⟩)) ?_
    (refine RV.AllDo.cons _ (RV.pu T (fun γ v L w hl h => h.stay rfl) (fun γ L a w hH hl h9 k9 => ⟨_, ?_, rfl⟩)) ?_; · have q0 := hH.glob.at hk hne; simp [execOp, go_sem, h9, q0])
    refine RV.AllDo.cons _ (RV.does_call (fun γ L a w hH hl hA => by have h9 := T γ L a w hH; have k9 := hA; simp [Region.binds] at k9; exact ⟨_, _, by simp [go_sem, h9, k9], Calls.mono (nratio_any ob 0 _ ((sub t f).getD 0) k 16 w hH.glob.cell hH.glob.frozen) (by rintro e w2 ⟨rfl, ha⟩; exact ⟨_, rfl, rfl, fun j v _ h => h.keep _, hH.glob.come hl rfl ha.out⟩)⟩)) ?_
    refine RV.AllDo.cons _ (RV.does_call (fun γ L a w hH hl hA => by have h9 := T γ L a w hH; have k9 := hA; simp [Region.binds] at k9; exact ⟨_, _, by simp [go_sem, h9, k9], Calls.mono (nadd_any ob 0 _ f ((goR f t k).getD 0) w hH.glob.cell hH.glob.frozen) (by rintro e w2 ⟨rfl, ha⟩; exact ⟨_, rfl, rfl, fun j v _ h => h.keep _, hH.glob.come hl rfl ha.out⟩)⟩)) ?_
    (refine RV.AllDo.cons _ (RV.pu T (fun γ v L w hl h => h.stay rfl) (fun γ L a w hH hl h9 k9 => ⟨_, ?_, rfl⟩)) ?_; · simp [Region.binds] at k9; simp [execOp, go_sem, h9, k9])
    exact RV.AllDo.nil
  · intro γ w5 L9 hL hI9 hG9
    have hFL : orL fl [(3, (sub t f).isNone), (5, (goR f t k).isNone), (6, (goA f t k).isNone)] L9 = (fl || ((sub t f).isNone || ((goR f t k).isNone || ((goA f t k).isNone)))) := by unfold orL; simp only [List.any_cons, List.any_nil, hL 3 (by decide), hL 5 (by decide), hL 6 (by decide), Bool.true_and, Bool.or_false]
    have HA9 : Hid (After _ _ _ _) := hG9.leaves.done hG9.cell hG9.frozen
    rw [hFL] at HA9
    clear hFL hG9
    simp only [RV.putL, Act.put, List.setIfInBounds_toArray, List.set_cons_zero, List.set_cons_succ]
    clear hI9 hL
    go_wp2_with (fail)
    exact bodyPost_ret (v := .int .i64 (goZ f t k)) (by simp [results, Tryz.results83, go_sem]) rfl ⟨rfl, by show After _ _ _ _; unfold goN; exact HA9.out⟩

set_option maxHeartbeats 4000000 in
set_option maxRecDepth 100000 in
theorem halong_any (f t : V3) (k : Int) (fb : Nat) (fl : Bool) (W : World) (hc : W.cell? ⟨fb, 0, none⟩ = some (.bool fl)) (hf : W.frozen? ⟨fb, 0, none⟩ = false) :
    Calls Tryz.prog 37 #[.pointer (some ⟨fb, 0, none⟩), f.val, t.val, .int .i64 k] W fun e W' => e = .returned (.tuple #[(if alN f t k then f else alV f t k).val, .int .i64 (if alN f t k then 0 else k)]) ∧ Hid (After ⟨fb, 0, none⟩ (fl || alN f t k) W W') := by
  have hbW : fb < W.heap.size := World.block_lt_of_cell? _ _ hc
  obtain ⟨V, hV⟩ : ∃ V, V = (((((W.alloc (.cells #[.int .i64 f.x, .int .i64 f.y, .int .i64 f.z] 27)).alloc (.cells #[.int .i64 t.x, .int .i64 t.y, .int .i64 t.z] 27)).alloc (.cells #[.int .i64 k] 3)).alloc (.cells #[.int .i64 0, .int .i64 0, .int .i64 0] 27)).alloc (.cells #[.bool false] 46)) := ⟨_, rfl⟩
  have hb0 := n_after W (.cells #[.int .i64 f.x, .int .i64 f.y, .int .i64 f.z] 27)
  have hb1 := n_after (W.alloc (.cells #[.int .i64 f.x, .int .i64 f.y, .int .i64 f.z] 27)) (.cells #[.int .i64 t.x, .int .i64 t.y, .int .i64 t.z] 27)
  have hb2 := n_after ((W.alloc (.cells #[.int .i64 f.x, .int .i64 f.y, .int .i64 f.z] 27)).alloc (.cells #[.int .i64 t.x, .int .i64 t.y, .int .i64 t.z] 27)) (.cells #[.int .i64 k] 3)
  have hb3 := n_after (((W.alloc (.cells #[.int .i64 f.x, .int .i64 f.y, .int .i64 f.z] 27)).alloc (.cells #[.int .i64 t.x, .int .i64 t.y, .int .i64 t.z] 27)).alloc (.cells #[.int .i64 k] 3)) (.cells #[.int .i64 0, .int .i64 0, .int .i64 0] 27)
  have hb4 := n_after ((((W.alloc (.cells #[.int .i64 f.x, .int .i64 f.y, .int .i64 f.z] 27)).alloc (.cells #[.int .i64 t.x, .int .i64 t.y, .int .i64 t.z] 27)).alloc (.cells #[.int .i64 k] 3)).alloc (.cells #[.int .i64 0, .int .i64 0, .int .i64 0] 27)) (.cells #[.bool false] 46)
  have Cf : CW V (W.heap.size) [.int .i64 f.x, .int .i64 f.y, .int .i64 f.z] := by
    have h9 := ((((CW.new W [.int .i64 f.x, .int .i64 f.y, .int .i64 f.z] 27).step hb1).step hb2).step hb3).step hb4
    rw [hV]; exact h9
  have Ct : CW V (W.heap.size + 1) [.int .i64 t.x, .int .i64 t.y, .int .i64 t.z] := by
    have h9 := (((CW.new (W.alloc (.cells #[.int .i64 f.x, .int .i64 f.y, .int .i64 f.z] 27)) [.int .i64 t.x, .int .i64 t.y, .int .i64 t.z] 27).step hb2).step hb3).step hb4
    simp only [World.size_alloc] at h9
    rw [hV]; exact h9
  have Ck : CW V (W.heap.size + 1 + 1) [.int .i64 k] := by
    have h9 := ((CW.new ((W.alloc (.cells #[.int .i64 f.x, .int .i64 f.y, .int .i64 f.z] 27)).alloc (.cells #[.int .i64 t.x, .int .i64 t.y, .int .i64 t.z] 27)) [.int .i64 k] 3).step hb3).step hb4
    simp only [World.size_alloc] at h9
    rw [hV]; exact h9
  have Cr : CW V (W.heap.size + 1 + 1 + 1) [.int .i64 0, .int .i64 0, .int .i64 0] := by
    have h9 := (CW.new (((W.alloc (.cells #[.int .i64 f.x, .int .i64 f.y, .int .i64 f.z] 27)).alloc (.cells #[.int .i64 t.x, .int .i64 t.y, .int .i64 t.z] 27)).alloc (.cells #[.int .i64 k] 3)) [.int .i64 0, .int .i64 0, .int .i64 0] 27).step hb4
    simp only [World.size_alloc] at h9
    rw [hV]; exact h9
  have Co : CW V (W.heap.size + 1 + 1 + 1 + 1) [.bool false] := by
    have h9 := CW.new ((((W.alloc (.cells #[.int .i64 f.x, .int .i64 f.y, .int .i64 f.z] 27)).alloc (.cells #[.int .i64 t.x, .int .i64 t.y, .int .i64 t.z] 27)).alloc (.cells #[.int .i64 k] 3)).alloc (.cells #[.int .i64 0, .int .i64 0, .int .i64 0] 27)) [.bool false] 46
    simp only [World.size_alloc] at h9
    rw [hV]; exact h9
  have hB : Below W.heap.size W V := by rw [hV]; exact (b_step (b_step (b_step (b_step hb0 hb1) hb2) hb3) hb4)
  clear hb0 hb1 hb2 hb3 hb4
  have hcV := c_after hB hc
  have hfV := f_after hB hc hf
  have HLV : Hid (Leaves ⟨fb, 0, none⟩ W V) := (Leaves.refl _ _).step hB
  clear hc hf hB
  obtain ⟨av, hav⟩ : ∃ v, v = (if alN f t k then f else alV f t k) := ⟨_, rfl⟩
  obtain ⟨ak, hak⟩ : ∃ v, v = (if alN f t k then 0 else k) := ⟨_, rfl⟩
  obtain ⟨bd, hbd⟩ : ∃ v, v = alN f t k := ⟨_, rfl⟩
  rw [← hav, ← hak, ← hbd]
  rw [← hbd] at hav hak
  have HAV : Hid _ := hav
  have HAK : Hid _ := hak
  have HBD : Hid _ := hbd
  clear hav hak hbd
  go_enter Tryz.func37, Tryz.ntmps37
  go_upto_region 3 with fail
  rw [← hV]
  clear hV
  obtain ⟨po, hpo⟩ : ∃ p, p = W.heap.size + 1 + 1 + 1 + 1 := ⟨_, rfl⟩
  obtain ⟨pr, hpr⟩ : ∃ p, p = W.heap.size + 1 + 1 + 1 := ⟨_, rfl⟩
  obtain ⟨pk, hpk⟩ : ∃ p, p = W.heap.size + 1 + 1 := ⟨_, rfl⟩
  obtain ⟨pt, hpt⟩ : ∃ p, p = W.heap.size + 1 := ⟨_, rfl⟩
  obtain ⟨pf, hpf⟩ : ∃ p, p = W.heap.size := ⟨_, rfl⟩
  rw [← hpo] at Co
  rw [← hpr] at Cr
  rw [← hpk] at Ck
  rw [← hpt] at Ct
  rw [← hpf] at Cf
  rw [← hpo, ← hpr, ← hpk, ← hpt, ← hpf]
  have nf : pf ≠ po := by omega
  have nt : pt ≠ po := by omega
  have nk : pk ≠ po := by omega
  have nr : pr ≠ po := by omega
  have no : fb ≠ po := by omega
  have hWo : W.heap.size ≤ po := by omega
  have hWr : W.heap.size ≤ pr := by omega
  have hWf : W.heap.size ≤ pf := by omega
  have nkr0 : pk ≠ pr := by omega
  have Cr0 := Cr
  obtain ⟨o0, of0⟩ := Co 0 _ rfl
  have f0 := (Cf 0 _ rfl).1
  have t0 := (Ct 0 _ rfl).1
  have f1 := (Cf 1 _ rfl).1
  have t1 := (Ct 1 _ rfl).1
  have f2 := (Cf 2 _ rfl).1
  have t2 := (Ct 2 _ rfl).1
  have k0 := (Ck 0 _ rfl).1
  clear hpf hpt hpk hpr hpo
  refine RV.rs [.some (.func (.func 83) #[] #[.pointer (some ⟨po, 0, none⟩), .pointer (some ⟨pk, 0, none⟩)]), .some (.pointer (some ⟨pf, 0, none⟩)), .some (.int .i64 (f.x)), .some (.pointer (some ⟨pt, 0, none⟩)), .some (.int .i64 (t.x)), .some (.int .i64 (goZ f.x t.x k)), .some (.func (.func 83) #[] #[.pointer (some ⟨po, 0, none⟩), .pointer (some ⟨pk, 0, none⟩)]), .some (.pointer (some ⟨pf, 1, none⟩)), .some (.int .i64 (f.y)), .some (.pointer (some ⟨pt, 1, none⟩)), .some (.int .i64 (t.y)), .some (.int .i64 (goZ f.y t.y k)), .some (.func (.func 83) #[] #[.pointer (some ⟨po, 0, none⟩), .pointer (some ⟨pk, 0, none⟩)]), .some (.pointer (some ⟨pf, 2, none⟩)), .some (.int .i64 (f.z)), .some (.pointer (some ⟨pt, 2, none⟩)), .some (.int .i64 (t.z)), .some (.int .i64 (goZ f.z t.z k)), .some (.agg #[.int .i64 (goZ f.x t.x k), .int .i64 (goZ f.y t.y k), .int .i64 (goZ f.z t.z k)]), none, none] [15, 16, 17, 18, 19, 20, 21, 22, 23, 24, 25, 26, 27, 28, 29, 30, 31, 32, 33, 13, 0] [(5, .pointer (some ⟨pf, 0, none⟩)), (6, .pointer (some ⟨pt, 0, none⟩)), (11, .func (.func 83) #[] #[.pointer (some ⟨po, 0, none⟩), .pointer (some ⟨pk, 0, none⟩)])] (fun γ L w => NG V ⟨po, 0, none⟩ false [(5, goN f.x t.x k), (11, goN f.y t.y k), (17, goN f.z t.z k)] 27 19 20 #[.int .i64 (goZ f.x t.x k), .int .i64 (goZ f.y t.y k), .int .i64 (goZ f.z t.z k)] γ L w) ⟨rfl, rfl, rfl, trivial⟩ (NG.start o0 of0) ?_ ?_
  · intro D WA Z hD hWA hZ T
    simp only [RV.Outs, RV.Slots, Nat.reduceAdd] at T
    iterate 2 (refine RV.AllDo.cons _ (RV.pu T (fun γ v L w hl h => h.other _ rfl (by decide) (by decide)) (fun γ L a w hH hl h9 k9 => ⟨_, ?_, rfl⟩)) ?_; · simp [execOp, go_sem, h9])
    (refine RV.AllDo.cons _ (RV.pu T (fun γ v L w hl h => h.other _ rfl (by decide) (by decide)) (fun γ L a w hH hl h9 k9 => ⟨_, ?_, rfl⟩)) ?_; · have q0 := hH.glob.fg.at f0 nf; simp [Region.binds] at k9; simp [execOp, go_sem, h9, k9, q0])
    (refine RV.AllDo.cons _ (RV.pu T (fun γ v L w hl h => h.other _ rfl (by decide) (by decide)) (fun γ L a w hH hl h9 k9 => ⟨_, ?_, rfl⟩)) ?_; · simp [execOp, go_sem, h9])
    (refine RV.AllDo.cons _ (RV.pu T (fun γ v L w hl h => h.other _ rfl (by decide) (by decide)) (fun γ L a w hH hl h9 k9 => ⟨_, ?_, rfl⟩)) ?_; · have q0 := hH.glob.fg.at t0 nt; simp [Region.binds] at k9; simp [execOp, go_sem, h9, k9, q0])
    refine RV.AllDo.cons _ (RV.does_call (fun γ L a w hH hl hA => by have h9 := T γ L a w hH; have k9 := hA; simp [Region.binds] at k9; exact ⟨_, _, by simp [go_sem, h9, k9], Calls.mono (hgoes_any f.x t.x k po pk _ w hH.glob.fg.cell hH.glob.fg.frozen (hH.glob.fg.at k0 nk) nk) (by rintro e w2 ⟨rfl, ha⟩; exact ⟨_, rfl, rfl, fun j v _ h => h.keep _, hH.glob.come _ hl rfl ha.out (by decide) (by decide)⟩)⟩)) ?_
    iterate 2 (refine RV.AllDo.cons _ (RV.pu T (fun γ v L w hl h => h.other _ rfl (by decide) (by decide)) (fun γ L a w hH hl h9 k9 => ⟨_, ?_, rfl⟩)) ?_; · simp [execOp, go_sem, h9])
    (refine RV.AllDo.cons _ (RV.pu T (fun γ v L w hl h => h.other _ rfl (by decide) (by decide)) (fun γ L a w hH hl h9 k9 => ⟨_, ?_, rfl⟩)) ?_; · have q0 := hH.glob.fg.at f1 nf; simp [Region.binds] at k9; simp [execOp, go_sem, h9, k9, q0])
    (refine RV.AllDo.cons _ (RV.pu T (fun γ v L w hl h => h.other _ rfl (by decide) (by decide)) (fun γ L a w hH hl h9 k9 => ⟨_, ?_, rfl⟩)) ?_; · simp [execOp, go_sem, h9])
    (refine RV.AllDo.cons _ (RV.pu T (fun γ v L w hl h => h.other _ rfl (by decide) (by decide)) (fun γ L a w hH hl h9 k9 => ⟨_, ?_, rfl⟩)) ?_; · have q0 := hH.glob.fg.at t1 nt; simp [Region.binds] at k9; simp [execOp, go_sem, h9, k9, q0])
    refine RV.AllDo.cons _ (RV.does_call (fun γ L a w hH hl hA => by have h9 := T γ L a w hH; have k9 := hA; simp [Region.binds] at k9; exact ⟨_, _, by simp [go_sem, h9, k9], Calls.mono (hgoes_any f.y t.y k po pk _ w hH.glob.fg.cell hH.glob.fg.frozen (hH.glob.fg.at k0 nk) nk) (by rintro e w2 ⟨rfl, ha⟩; exact ⟨_, rfl, rfl, fun j v _ h => h.keep _, hH.glob.come _ hl rfl ha.out (by decide) (by decide)⟩)⟩)) ?_
    iterate 2 (refine RV.AllDo.cons _ (RV.pu T (fun γ v L w hl h => h.other _ rfl (by decide) (by decide)) (fun γ L a w hH hl h9 k9 => ⟨_, ?_, rfl⟩)) ?_; · simp [execOp, go_sem, h9])
    (refine RV.AllDo.cons _ (RV.pu T (fun γ v L w hl h => h.other _ rfl (by decide) (by decide)) (fun γ L a w hH hl h9 k9 => ⟨_, ?_, rfl⟩)) ?_; · have q0 := hH.glob.fg.at f2 nf; simp [Region.binds] at k9; simp [execOp, go_sem, h9, k9, q0])
    (refine RV.AllDo.cons _ (RV.pu T (fun γ v L w hl h => h.other _ rfl (by decide) (by decide)) (fun γ L a w hH hl h9 k9 => ⟨_, ?_, rfl⟩)) ?_; · simp [execOp, go_sem, h9])
    (refine RV.AllDo.cons _ (RV.pu T (fun γ v L w hl h => h.other _ rfl (by decide) (by decide)) (fun γ L a w hH hl h9 k9 => ⟨_, ?_, rfl⟩)) ?_; · have q0 := hH.glob.fg.at t2 nt; simp [Region.binds] at k9; simp [execOp, go_sem, h9, k9, q0])
    refine RV.AllDo.cons _ (RV.does_call (fun γ L a w hH hl hA => by have h9 := T γ L a w hH; have k9 := hA; simp [Region.binds] at k9; exact ⟨_, _, by simp [go_sem, h9, k9], Calls.mono (hgoes_any f.z t.z k po pk _ w hH.glob.fg.cell hH.glob.fg.frozen (hH.glob.fg.at k0 nk) nk) (by rintro e w2 ⟨rfl, ha⟩; exact ⟨_, rfl, rfl, fun j v _ h => h.keep _, hH.glob.come _ hl rfl ha.out (by decide) (by decide)⟩)⟩)) ?_
    (refine RV.AllDo.cons _ (RV.pu T (fun γ v L w hl h => h.other _ rfl (by decide) (by decide)) (fun γ L a w hH hl h9 k9 => ⟨_, ?_, rfl⟩)) ?_; · simp [Region.binds] at k9; simp [execOp, go_sem, h9, k9])
    refine RV.AllDo.cons _ (RV.does_step (fun γ L a w hH hl hA => ⟨.pointer (some ⟨w.heap.size, 0, none⟩), w.alloc (.cells #[.int .i64 0, .int .i64 0, .int .i64 0] 27), by simp [execOp, go_sem], trivial, fun j v _ h => h.keep _, hH.glob.made #[.int .i64 0, .int .i64 0, .int .i64 0] rfl (RV.not_yet hH (RV.wt (j := 20) (i := 19) hWA (by kernel_rfl)) hl) rfl (by decide)⟩)) ?_
    refine RV.AllDo.cons _ (RV.does_store (fun γ L a w hH hl hA => by have h9 := T γ L a w hH; have k9 := hA; simp [Region.binds] at k9; have l0 : L 19 = true := hA ⟨19, .data⟩ (by simp) rfl; have e0 := hH.slot 19 12 (by rw [← hD]; rfl) l0; obtain ⟨b, hb1, hb2, hb3, hb4⟩ := hH.glob.spot l0; rw [hb1] at e0; exact ⟨_, exec_store_all 27 _ _ rfl b 0 _ (by simp [Act.eval, e0]) (by simp [Act.eval, h9, k9]) hb3 (by kernel_rfl) (by simp only [List.all_toArray, List.all_cons, List.all_nil, Value.oneCell', Bool.and_self]), trivial, fun j v _ h => h.keep _, hb4 (by decide) rfl _⟩)) ?_
    exact RV.AllDo.nil
  · intro γ w5 L9 hL hI9 hG9
    have hFL : orL false [(5, goN f.x t.x k), (11, goN f.y t.y k), (17, goN f.z t.z k)] L9 = (false || (goN f.x t.x k || (goN f.y t.y k || (goN f.z t.z k)))) := by unfold orL; simp only [List.any_cons, List.any_nil, hL 5 (by decide), hL 11 (by decide), hL 17 (by decide), Bool.true_and, Bool.or_false]
    obtain ⟨hA9, nb, e9, hnb, Cnb⟩ := hG9.done (hL 19 (by decide)) (hL 20 (by decide))
    have HA9 : Hid (After _ _ _ _) := hA9
    rw [hFL] at HA9
    clear hFL hG9 hA9
    simp only [RV.putL, Act.put, List.setIfInBounds_toArray, List.set_cons_zero, List.set_cons_succ, Nat.reduceAdd]
    rw [e9]
    have Cnb : Hid (CW _ _ _) := Cnb
    clear e9
    clear hI9 hL
    have HA9 : Hid (After ⟨po, 0, none⟩ bd V w5) := by have h9 := HA9.out; rw [Bool.false_or] at h9; rw [HBD.out]; exact h9
    have HLV : Hid (Leaves ⟨fb, 0, none⟩ W w5) := HLV.out.after HA9.out hWo
    have Cr : Hid (CW _ _ _) := Cr.after HA9.out nr
    have Cf : Hid (CW _ _ _) := Cf.after HA9.out nf
    have Ck : Hid (CW _ _ _) := Ck.after HA9.out nk
    have HFC : Hid (w5.cell? ⟨fb, 0, none⟩ = some (.bool fl)) := HA9.out.cellOf hcV no
    have HFF : Hid (w5.frozen? ⟨fb, 0, none⟩ = false) := HA9.out.frozenOf hcV hfV no
    have hoc := HA9.out.cell
    have hnb : pr ≠ nb := by have := Cr0.lt; omega
    clear HA9 hcV hfV f0 f1 f2 t0 t1 t2 k0
    clear HBD
    cases bd with
    | true =>
      obtain rfl : av = f := by rw [HAV.out]; rfl
      obtain rfl : ak = 0 := by rw [HAK.out]; rfl
      clear HAV HAK
      obtain ⟨r0, q0⟩ := Cr.out 0 _ rfl
      obtain ⟨r1, q1⟩ := Cr.out 1 _ rfl
      obtain ⟨r2, q2⟩ := Cr.out 2 _ rfl
      have f0 := (Cf.out 0 _ rfl).1
      have f1 := (Cf.out 1 _ rfl).1
      have f2 := (Cf.out 2 _ rfl).1
      have hfc := HFC.out
      have hff := HFF.out
      have nfr : fb ≠ pr := by omega
      have nrf : pr ≠ fb := by omega
      have nff : fb ≠ pf := by omega
      have nff2 : pf ≠ fb := by omega
      clear Cnb
      go_wp2_with (fail)
      refine bodyPost_ret (v := .tuple #[av.val, .int .i64 0]) (by simp [results, Tryz.results37, go_sem, r0, r1, r2]; try rfl) rfl ?_
      refine ⟨rfl, ((((HLV.out.own _).set hWr _).set hWr _).set hWr _).done ?_ ?_⟩
      · simp [go_sem, hfc]
      · simp [go_sem, hff]
    | false =>
      obtain rfl : av = alV f t k := by rw [HAV.out]; rfl
      obtain rfl : ak = k := by rw [HAK.out]; rfl
      clear HAV HAK
      obtain ⟨r0, q0⟩ := Cr.out 0 _ rfl
      obtain ⟨r1, q1⟩ := Cr.out 1 _ rfl
      obtain ⟨r2, q2⟩ := Cr.out 2 _ rfl
      have a0 := (Cnb.out 0 _ rfl).1
      have a1 := (Cnb.out 1 _ rfl).1
      have a2 := (Cnb.out 2 _ rfl).1
      have k0 := (Ck.out 0 _ rfl).1
      have hfc := HFC.out
      have hff := HFF.out
      have nfr : fb ≠ pr := by omega
      have nkr : pk ≠ pr := by omega
      have nkr2 : pr ≠ pk := by omega
      have hnb2 : nb ≠ pr := fun e => hnb e.symm
      clear Cf
      go_upto_region 7 with fail
      go_region
      all_goals
        go_wp2_with (fail)
        refine bodyPost_ret (v := .tuple #[(alV f t ak).val, .int .i64 ak]) (by simp [results, Tryz.results37, go_sem, r0, r1, r2]; exact ⟨rfl, rfl, rfl⟩) rfl ?_
        refine ⟨rfl, ((((HLV.out.set hWr _).set hWr _).set hWr _).drew).done ?_ ?_⟩
        · simp [go_sem, hfc]
        · simp [go_sem, hff]

end Go.Proofs.YtbhdfjoagajipaaGreat
namespace Go.Proofs.YtbhdfjoagajipaaGreat
open Go.RowKit Go.Shelf
set_option linter.unusedVariables false

theorem down_is {n : Int} (hn : -4611686018427387904 ≤ n ∧ n ≤ 4611686018427387903) : (n.tmod 1048576 < 0 → n.tdiv 1048576 - 1 = n / 1048576) ∧ (¬ n.tmod 1048576 < 0 → n.tdiv 1048576 = n / 1048576) := by
  have h1 := Int.tmod_add_mul_tdiv n 1048576
  have h2 := Int.tmod_lt_of_pos n (b := 1048576) (by decide)
  have h3 : -1048576 < n.tmod 1048576 := by
    have := Int.tmod_lt_of_pos (-n) (b := 1048576) (by decide)
    rw [Int.neg_tmod] at this
    omega
  omega
end Go.Proofs.YtbhdfjoagajipaaGreat
namespace Go.Proofs.YtbhdfjoagajipaaGreat
open Go.RowKit Go.Shelf
set_option linter.unusedVariables false

theorem setg9 (W : World) (b o : Nat) (u : Value) : W.grownBy (W.setCell ⟨b, o, none⟩ u) (some b) := ⟨rfl, rfl, rfl, by simp [World.setCell], fun k _ hk => Below.heap_setCell _ _ _ k (fun e => hk (by rw [e]))⟩
set_option maxHeartbeats 2000000 in
theorem rin18_any (x y z m : Int) (w : World) (hm : 0 ≤ m ∧ m ≤ 4611686018427387903) :
    Calls Tryz.prog 87 #[.int .i64 x, .int .i64 y, .int .i64 z, .int .i64 m] w fun e W => e = .returned (.bool (Pt.inB ⟨x, y, z⟩ m)) ∧ Below w.heap.size w W := by
  have HI : Hid (Pt.inB ⟨x, y, z⟩ m = decide ((-m ≤ x ∧ x ≤ m) ∧ (-m ≤ y ∧ y ≤ m) ∧ (-m ≤ z ∧ z ≤ m))) := rfl
  obtain ⟨R9, hR9⟩ : ∃ R9, Pt.inB ⟨x, y, z⟩ m = R9 := ⟨_, rfl⟩
  rw [hR9] at HI ⊢
  clear hR9
  obtain ⟨mm, hmm⟩ : ∃ mm, IntKind.i64.wrap (-m) = mm := ⟨_, rfl⟩
  have hm9 : mm = -m := by rw [← hmm, IntKind.wrap_i64]; omega
  rw [← hm9] at HI
  have HM : Hid _ := hm
  clear hm9 hm
  by_cases h1 : mm ≤ x
  · by_cases h2 : x ≤ m
    · by_cases h3 : mm ≤ y
      · by_cases h4 : y ≤ m
        · by_cases h5 : mm ≤ z
          · by_cases h6 : z ≤ m
            · have e9 : R9 = true := by rw [HI.out]; simp [h1, h2, h3, h4, h5, h6]
              subst e9
              go_enter Tryz.func87, Tryz.ntmps87
              go_wp2
              go_ret
              exact ⟨rfl, Below.refl _ _⟩
            · have e9 : R9 = false := by rw [HI.out]; simp [h6]
              subst e9
              go_enter Tryz.func87, Tryz.ntmps87
              go_wp2
              go_ret
              exact ⟨rfl, Below.refl _ _⟩
          · have e9 : R9 = false := by rw [HI.out]; simp [h5]
            subst e9
            go_enter Tryz.func87, Tryz.ntmps87
            go_wp2
            go_ret
            exact ⟨rfl, Below.refl _ _⟩
        · have e9 : R9 = false := by rw [HI.out]; simp [h4]
          subst e9
          go_enter Tryz.func87, Tryz.ntmps87
          go_wp2
          go_ret
          exact ⟨rfl, Below.refl _ _⟩
      · have e9 : R9 = false := by rw [HI.out]; simp [h3]
        subst e9
        go_enter Tryz.func87, Tryz.ntmps87
        go_wp2
        go_ret
        exact ⟨rfl, Below.refl _ _⟩
    · have e9 : R9 = false := by rw [HI.out]; simp [h2]
      subst e9
      go_enter Tryz.func87, Tryz.ntmps87
      go_wp2
      go_ret
      exact ⟨rfl, Below.refl _ _⟩
  · have e9 : R9 = false := by rw [HI.out]; simp [h1]
    subst e9
    go_enter Tryz.func87, Tryz.ntmps87
    go_wp2
    go_ret
    exact ⟨rfl, Below.refl _ _⟩

set_option maxHeartbeats 1000000 in
theorem rdown18_any (n : Int) (w : World) (hn : -4611686018427387904 ≤ n ∧ n ≤ 4611686018427387903) :
    Calls Tryz.prog 128 #[.int .i64 n] w fun e W => e = .returned (.int .i64 (n / 1048576)) ∧ W = w := by
  obtain ⟨d1, d2⟩ := down_is hn
  obtain ⟨r, hr⟩ : ∃ r, n / 1048576 = r := ⟨_, rfl⟩
  rw [hr] at d1 d2 ⊢
  have b1 : -4611686018427387904 ≤ n.tdiv 1048576 ∧ n.tdiv 1048576 ≤ 4611686018427387903 := by
    have e : (n.tdiv 1048576).natAbs = n.natAbs / 1048576 := Int.natAbs_tdiv n 1048576
    omega
  clear hr
  obtain ⟨t, ht⟩ : ∃ t, n.tdiv 1048576 = t := ⟨_, rfl⟩
  obtain ⟨u, hu⟩ : ∃ u, n.tmod 1048576 = u := ⟨_, rfl⟩
  have e1 : wrap64 (n.tdiv 1048576) = t := by rw [w64 (by omega) (by omega)]; exact ht
  rw [ht] at d1 d2 b1
  rw [hu] at d1 d2
  have e2 : wrap64 (t - 1) = t - 1 := w64 (by omega) (by omega)
  by_cases h : u < 0
  · have e3 : t - 1 = r := d1 h
    subst e3
    clear d1 d2 b1 hn ht
    go_enter Tryz.func128, Tryz.ntmps128
    go_wp2
    go_ret
    exact ⟨by simp [e1, e2], rfl⟩
  · have e3 : t = r := d2 h
    subst e3
    clear d1 d2 b1 hn ht
    go_enter Tryz.func128, Tryz.ntmps128
    go_wp2
    go_ret
    exact ⟨by simp, rfl⟩
set_option maxHeartbeats 4000000 in
set_option maxRecDepth 100000 in
theorem rgrn18_any (v : V3) (w : World) (hv : Pt.inB ⟨v.x, v.y, v.z⟩ 1125899906842624 = true) :
    Calls Tryz.prog 88 #[v.val] w fun e W => e = .returned (grn v).v ∧ Below w.heap.size w W := by
  rw [Pt.inB_iff] at hv
  obtain ⟨x, y, z⟩ := v
  dsimp only at hv
  have HDx : Hid (∀ w', Calls Tryz.prog 128 #[.int .i64 x] w' fun e W => e = .returned (.int .i64 (x / 1048576)) ∧ Below w'.heap.size w' W) := fun w' => (rdown18_any x w' (by omega)).mono (by rintro e W ⟨h1, rfl⟩; exact ⟨h1, Below.refl _ _⟩)
  have HDy : Hid (∀ w', Calls Tryz.prog 128 #[.int .i64 y] w' fun e W => e = .returned (.int .i64 (y / 1048576)) ∧ Below w'.heap.size w' W) := fun w' => (rdown18_any y w' (by omega)).mono (by rintro e W ⟨h1, rfl⟩; exact ⟨h1, Below.refl _ _⟩)
  have HDz : Hid (∀ w', Calls Tryz.prog 128 #[.int .i64 z] w' fun e W => e = .returned (.int .i64 (z / 1048576)) ∧ Below w'.heap.size w' W) := fun w' => (rdown18_any z w' (by omega)).mono (by rintro e W ⟨h1, rfl⟩; exact ⟨h1, Below.refl _ _⟩)
  unfold grn Pt.v
  dsimp only [V3.val]
  generalize x / 1048576 = gx at *
  generalize y / 1048576 = gy at *
  generalize z / 1048576 = gz at *
  clear hv
  obtain ⟨V, hV⟩ : ∃ V, V = (w.alloc (.cells #[.int .i64 x, .int .i64 y, .int .i64 z] 27)).alloc (.cells #[.int .i64 0, .int .i64 0, .int .i64 0] 23) := ⟨_, rfl⟩
  obtain ⟨vb, hvb⟩ : ∃ b, b = w.heap.size := ⟨_, rfl⟩
  obtain ⟨rb, hrb⟩ : ∃ b, b = w.heap.size + 1 := ⟨_, rfl⟩
  have k1 := n_after w (.cells #[.int .i64 x, .int .i64 y, .int .i64 z] 27)
  have k2 := n_after (w.alloc (.cells #[.int .i64 x, .int .i64 y, .int .i64 z] 27)) (.cells #[.int .i64 0, .int .i64 0, .int .i64 0] 23)
  have c1 := (CW.new w [.int .i64 x, .int .i64 y, .int .i64 z] 27).step k2
  have c2 := CW.new (w.alloc (.cells #[.int .i64 x, .int .i64 y, .int .i64 z] 27)) [.int .i64 0, .int .i64 0, .int .i64 0] 23
  rw [World.size_alloc, ← hrb] at c2
  rw [← hvb] at c1
  rw [← hV] at c1 c2
  have HB : Hid (Below w.heap.size w V) := by show Below _ _ _; rw [hV]; exact b_step k1 k2
  have HRB : Hid (w.heap.size ≤ rb) := by show _ ≤ _; omega
  obtain ⟨v0, _⟩ := c1 0 _ rfl
  obtain ⟨v1, _⟩ := c1 1 _ rfl
  obtain ⟨v2, _⟩ := c1 2 _ rfl
  obtain ⟨s0, sf0⟩ := c2 0 _ rfl
  obtain ⟨s1, sf1⟩ := c2 1 _ rfl
  obtain ⟨s2, sf2⟩ := c2 2 _ rfl
  clear k1 k2 c1 c2
  go_enter Tryz.func88, Tryz.ntmps88
  go_upto_region 1 with fail
  rw [← hV, ← hrb, ← hvb]
  clear hV hrb hvb
  refine RV.region_by (fun j v w => match j with | 0 => v = .pointer (some ⟨vb, 0, none⟩) | 1 => v = .int .i64 (x) | 2 => v = .int .i64 (gx) | 3 => v = .pointer (some ⟨vb, 1, none⟩) | 4 => v = .int .i64 (y) | 5 => v = .int .i64 (gy) | 6 => v = .pointer (some ⟨vb, 2, none⟩) | 7 => v = .int .i64 (z) | 8 => v = .int .i64 (gz) | 9 => v = .agg #[.int .i64 (gx), .int .i64 (gy), .int .i64 (gz)] | 10 => True | _ => True) (fun γ L w9 => (L 10 = false ∧ Below V.heap.size V w9) ∨ (L 10 = true ∧ ∃ w, Below V.heap.size V w ∧ w9 = (((w.setCell ⟨rb, 0, none⟩ (.int .i64 (gx))).setCell ⟨rb, 1, none⟩ (.int .i64 (gy))).setCell ⟨rb, 2, none⟩ (.int .i64 (gz))))) (by kernel_rfl) (by kernel_rfl) (by kernel_rfl) (by kernel_rfl) ?_ ?_ ?_
  · exact Or.inl ⟨rfl, (Below.refl _ V).drew⟩
  · generalize hD : dstOf _ = D
    generalize hWA : waitsFor _ = WA
    generalize hZ : Act.mk _ _ = Z
    obtain ⟨R, hR⟩ : ∃ R : Nat → Value → World → Prop, R = (fun j v w => match j with | 0 => v = .pointer (some ⟨vb, 0, none⟩) | 1 => v = .int .i64 (x) | 2 => v = .int .i64 (gx) | 3 => v = .pointer (some ⟨vb, 1, none⟩) | 4 => v = .int .i64 (y) | 5 => v = .int .i64 (gy) | 6 => v = .pointer (some ⟨vb, 2, none⟩) | 7 => v = .int .i64 (z) | 8 => v = .int .i64 (gz) | 9 => v = .agg #[.int .i64 (gx), .int .i64 (gy), .int .i64 (gz)] | 10 => True | _ => True) := ⟨_, rfl⟩
    rw [← hR]
    have d0 : D 0 = some 3 := by rw [← hD]; rfl
    have d1 : D 1 = some 4 := by rw [← hD]; rfl
    have d2 : D 2 = some 5 := by rw [← hD]; rfl
    have d3 : D 3 = some 6 := by rw [← hD]; rfl
    have d4 : D 4 = some 7 := by rw [← hD]; rfl
    have d5 : D 5 = some 8 := by rw [← hD]; rfl
    have d6 : D 6 = some 9 := by rw [← hD]; rfl
    have d7 : D 7 = some 10 := by rw [← hD]; rfl
    have d8 : D 8 = some 11 := by rw [← hD]; rfl
    have d9 : D 9 = some 12 := by rw [← hD]; rfl
    have r0 : ∀ v w, R 0 v w = (v = .pointer (some ⟨vb, 0, none⟩)) := fun v w => by rw [hR]; rfl
    have r1 : ∀ v w, R 1 v w = (v = .int .i64 (x)) := fun v w => by rw [hR]; rfl
    have r2 : ∀ v w, R 2 v w = (v = .int .i64 (gx)) := fun v w => by rw [hR]; rfl
    have r3 : ∀ v w, R 3 v w = (v = .pointer (some ⟨vb, 1, none⟩)) := fun v w => by rw [hR]; rfl
    have r4 : ∀ v w, R 4 v w = (v = .int .i64 (y)) := fun v w => by rw [hR]; rfl
    have r5 : ∀ v w, R 5 v w = (v = .int .i64 (gy)) := fun v w => by rw [hR]; rfl
    have r6 : ∀ v w, R 6 v w = (v = .pointer (some ⟨vb, 2, none⟩)) := fun v w => by rw [hR]; rfl
    have r7 : ∀ v w, R 7 v w = (v = .int .i64 (z)) := fun v w => by rw [hR]; rfl
    have r8 : ∀ v w, R 8 v w = (v = .int .i64 (gz)) := fun v w => by rw [hR]; rfl
    have r9 : ∀ v w, R 9 v w = (v = .agg #[.int .i64 (gx), .int .i64 (gy), .int .i64 (gz)]) := fun v w => by rw [hR]; rfl
    have r10 : ∀ v w, R 10 v w = (True) := fun v w => by rw [hR]; rfl
    have E1 : ∀ (γ : Nat → Value) (L : Nat → Bool) (a : Act) (w : World), RV.Held D WA R (fun γ L w9 => (L 10 = false ∧ Below V.heap.size V w9) ∨ (L 10 = true ∧ ∃ w, Below V.heap.size V w ∧ w9 = (((w.setCell ⟨rb, 0, none⟩ (.int .i64 (gx))).setCell ⟨rb, 1, none⟩ (.int .i64 (gy))).setCell ⟨rb, 2, none⟩ (.int .i64 (gz))))) Z γ L a w → a.tmps[1]? = some (.pointer (some ⟨vb, 0, none⟩)) := fun γ L a w hH => (hH.rest 1 (by rw [← hD]; exact RV.dst_free (by kernel_rfl))).trans (by rw [← hZ]; rfl)
    have E2 : ∀ (γ : Nat → Value) (L : Nat → Bool) (a : Act) (w : World), RV.Held D WA R (fun γ L w9 => (L 10 = false ∧ Below V.heap.size V w9) ∨ (L 10 = true ∧ ∃ w, Below V.heap.size V w ∧ w9 = (((w.setCell ⟨rb, 0, none⟩ (.int .i64 (gx))).setCell ⟨rb, 1, none⟩ (.int .i64 (gy))).setCell ⟨rb, 2, none⟩ (.int .i64 (gz))))) Z γ L a w → a.tmps[2]? = some (.pointer (some ⟨rb, 0, none⟩)) := fun γ L a w hH => (hH.rest 2 (by rw [← hD]; exact RV.dst_free (by kernel_rfl))).trans (by rw [← hZ]; rfl)
    have K : ∀ j v w w', R j v w → R j v w' := by rw [hR]; intro j v w w' h; exact h
    have A_10_1 : WA 10 1 := by rw [← hWA]; exact ⟨_, rfl, ⟨1, .phase⟩, by simp, rfl, rfl⟩
    have A_10_2 : WA 10 2 := by rw [← hWA]; exact ⟨_, rfl, ⟨2, .phase⟩, by simp, rfl, rfl⟩
    have A_10_4 : WA 10 4 := by rw [← hWA]; exact ⟨_, rfl, ⟨4, .phase⟩, by simp, rfl, rfl⟩
    have A_10_5 : WA 10 5 := by rw [← hWA]; exact ⟨_, rfl, ⟨5, .phase⟩, by simp, rfl, rfl⟩
    have A_10_7 : WA 10 7 := by rw [← hWA]; exact ⟨_, rfl, ⟨7, .phase⟩, by simp, rfl, rfl⟩
    have A_10_8 : WA 10 8 := by rw [← hWA]; exact ⟨_, rfl, ⟨8, .phase⟩, by simp, rfl, rfl⟩
    clear hD hWA hZ hR
    refine RV.AllDo.cons 0 (RV.does_pure (fun γ v L w hl h => by rw [RV.more_ne (L := L) (i := 0) (j := 10) (by decide)]; exact h) (fun γ L a w hH hl hA => by have e0 := E1 γ L a w hH; exact ⟨.pointer (some ⟨vb, 0, none⟩), by simp [execOp, go_sem, e0], (r0 _ _).mpr rfl⟩)) ?_
    refine RV.AllDo.cons 1 (RV.does_pure (fun γ v L w hl h => by rw [RV.more_ne (L := L) (i := 1) (j := 10) (by decide)]; exact h) (fun γ L a w hH hl hA => by have l0 : L 0 = true := hA ⟨0, .data⟩ (by simp) rfl; have e0 := hH.slot 0 3 d0 l0; have g0 := hH.holds 0 l0; rw [r0] at g0; rw [g0] at e0; have hB9 := early9 hH.glob (RV.not_yet hH A_10_1 hl); have z0 := c_after hB9 v0; exact ⟨.int .i64 (x), by simp [execOp, go_sem, e0, z0], (r1 _ _).mpr rfl⟩)) ?_
    refine RV.AllDo.cons 2 (RV.does_call (fun γ L a w hH hl hA => by have l0 : L 1 = true := hA ⟨1, .data⟩ (by simp) rfl; have e0 := hH.slot 1 4 d1 l0; have g0 := hH.holds 1 l0; rw [r1] at g0; rw [g0] at e0; have hB9 := early9 hH.glob (RV.not_yet hH A_10_2 hl); exact ⟨128, #[.int .i64 (x)], by simp [go_sem, e0], Calls.mono (HDx.out w) (by rintro e w2 ⟨rfl, hb⟩; exact ⟨_, rfl, (r2 _ _).mpr rfl, fun j v _ h => K j v _ _ h, Or.inl ⟨by rw [RV.more_ne (L := L) (i := 2) (j := 10) (by decide)]; exact RV.not_yet hH A_10_2 hl, hB9.trans (hb.mono hB9.size)⟩⟩)⟩)) ?_
    refine RV.AllDo.cons 3 (RV.does_pure (fun γ v L w hl h => by rw [RV.more_ne (L := L) (i := 3) (j := 10) (by decide)]; exact h) (fun γ L a w hH hl hA => by have e0 := E1 γ L a w hH; exact ⟨.pointer (some ⟨vb, 1, none⟩), by simp [execOp, go_sem, e0], (r3 _ _).mpr rfl⟩)) ?_
    refine RV.AllDo.cons 4 (RV.does_pure (fun γ v L w hl h => by rw [RV.more_ne (L := L) (i := 4) (j := 10) (by decide)]; exact h) (fun γ L a w hH hl hA => by have l0 : L 3 = true := hA ⟨3, .data⟩ (by simp) rfl; have e0 := hH.slot 3 6 d3 l0; have g0 := hH.holds 3 l0; rw [r3] at g0; rw [g0] at e0; have hB9 := early9 hH.glob (RV.not_yet hH A_10_4 hl); have z0 := c_after hB9 v1; exact ⟨.int .i64 (y), by simp [execOp, go_sem, e0, z0], (r4 _ _).mpr rfl⟩)) ?_
    refine RV.AllDo.cons 5 (RV.does_call (fun γ L a w hH hl hA => by have l0 : L 4 = true := hA ⟨4, .data⟩ (by simp) rfl; have e0 := hH.slot 4 7 d4 l0; have g0 := hH.holds 4 l0; rw [r4] at g0; rw [g0] at e0; have hB9 := early9 hH.glob (RV.not_yet hH A_10_5 hl); exact ⟨128, #[.int .i64 (y)], by simp [go_sem, e0], Calls.mono (HDy.out w) (by rintro e w2 ⟨rfl, hb⟩; exact ⟨_, rfl, (r5 _ _).mpr rfl, fun j v _ h => K j v _ _ h, Or.inl ⟨by rw [RV.more_ne (L := L) (i := 5) (j := 10) (by decide)]; exact RV.not_yet hH A_10_5 hl, hB9.trans (hb.mono hB9.size)⟩⟩)⟩)) ?_
    refine RV.AllDo.cons 6 (RV.does_pure (fun γ v L w hl h => by rw [RV.more_ne (L := L) (i := 6) (j := 10) (by decide)]; exact h) (fun γ L a w hH hl hA => by have e0 := E1 γ L a w hH; exact ⟨.pointer (some ⟨vb, 2, none⟩), by simp [execOp, go_sem, e0], (r6 _ _).mpr rfl⟩)) ?_
    refine RV.AllDo.cons 7 (RV.does_pure (fun γ v L w hl h => by rw [RV.more_ne (L := L) (i := 7) (j := 10) (by decide)]; exact h) (fun γ L a w hH hl hA => by have l0 : L 6 = true := hA ⟨6, .data⟩ (by simp) rfl; have e0 := hH.slot 6 9 d6 l0; have g0 := hH.holds 6 l0; rw [r6] at g0; rw [g0] at e0; have hB9 := early9 hH.glob (RV.not_yet hH A_10_7 hl); have z0 := c_after hB9 v2; exact ⟨.int .i64 (z), by simp [execOp, go_sem, e0, z0], (r7 _ _).mpr rfl⟩)) ?_
    refine RV.AllDo.cons 8 (RV.does_call (fun γ L a w hH hl hA => by have l0 : L 7 = true := hA ⟨7, .data⟩ (by simp) rfl; have e0 := hH.slot 7 10 d7 l0; have g0 := hH.holds 7 l0; rw [r7] at g0; rw [g0] at e0; have hB9 := early9 hH.glob (RV.not_yet hH A_10_8 hl); exact ⟨128, #[.int .i64 (z)], by simp [go_sem, e0], Calls.mono (HDz.out w) (by rintro e w2 ⟨rfl, hb⟩; exact ⟨_, rfl, (r8 _ _).mpr rfl, fun j v _ h => K j v _ _ h, Or.inl ⟨by rw [RV.more_ne (L := L) (i := 8) (j := 10) (by decide)]; exact RV.not_yet hH A_10_8 hl, hB9.trans (hb.mono hB9.size)⟩⟩)⟩)) ?_
    refine RV.AllDo.cons 9 (RV.does_pure (fun γ v L w hl h => by rw [RV.more_ne (L := L) (i := 9) (j := 10) (by decide)]; exact h) (fun γ L a w hH hl hA => by have l0 : L 2 = true := hA ⟨2, .data⟩ (by simp) rfl; have e0 := hH.slot 2 5 d2 l0; have g0 := hH.holds 2 l0; rw [r2] at g0; rw [g0] at e0; have l1 : L 5 = true := hA ⟨5, .data⟩ (by simp) rfl; have e1 := hH.slot 5 8 d5 l1; have g1 := hH.holds 5 l1; rw [r5] at g1; rw [g1] at e1; have l2 : L 8 = true := hA ⟨8, .data⟩ (by simp) rfl; have e2 := hH.slot 8 11 d8 l2; have g2 := hH.holds 8 l2; rw [r8] at g2; rw [g2] at e2; exact ⟨.agg #[.int .i64 (gx), .int .i64 (gy), .int .i64 (gz)], by simp [execOp, go_sem, e0, e1, e2], (r9 _ _).mpr rfl⟩)) ?_
    refine RV.AllDo.cons 10 (RV.does_store (fun γ L a w hH hl hA => by have e0 := E2 γ L a w hH; have l1 : L 9 = true := hA ⟨9, .data⟩ (by simp) rfl; have e1 := hH.slot 9 12 d9 l1; have g1 := hH.holds 9 l1; rw [r9] at g1; rw [g1] at e1; have hB9 := early9 hH.glob hl; have z0 := c_after hB9 s0; have zf0 := f_after hB9 s0 sf0; have z1 := c_after hB9 s1; have zf1 := f_after hB9 s1 sf1; have z2 := c_after hB9 s2; have zf2 := f_after hB9 s2 sf2; exact ⟨(((w.setCell ⟨rb, 0, none⟩ (.int .i64 (gx))).setCell ⟨rb, 1, none⟩ (.int .i64 (gy))).setCell ⟨rb, 2, none⟩ (.int .i64 (gz))), by simp [execOp, go_sem, e0, e1, z0, zf0, z1, zf1, z2, zf2], (r10 _ _).mpr trivial, fun j v _ h => K j v _ _ h, Or.inr ⟨RV.more_self, w, hB9, rfl⟩⟩)) ?_
    exact RV.AllDo.nil
  · intro γ a5 w5 L9 hL hLo hH
    have ha := RV.held_act hH hL (by kernel_rfl) (by kernel_rfl)
    obtain ⟨w8, hb8, rfl⟩ := late9 hH.glob (hL 10 (by decide))
    have y0 : γ 0 = .pointer (some ⟨vb, 0, none⟩) := hH.holds 0 (hL 0 (by decide))
    have y1 : γ 1 = .int .i64 (x) := hH.holds 1 (hL 1 (by decide))
    have y2 : γ 2 = .int .i64 (gx) := hH.holds 2 (hL 2 (by decide))
    have y3 : γ 3 = .pointer (some ⟨vb, 1, none⟩) := hH.holds 3 (hL 3 (by decide))
    have y4 : γ 4 = .int .i64 (y) := hH.holds 4 (hL 4 (by decide))
    have y5 : γ 5 = .int .i64 (gy) := hH.holds 5 (hL 5 (by decide))
    have y6 : γ 6 = .pointer (some ⟨vb, 2, none⟩) := hH.holds 6 (hL 6 (by decide))
    have y7 : γ 7 = .int .i64 (z) := hH.holds 7 (hL 7 (by decide))
    have y8 : γ 8 = .int .i64 (gz) := hH.holds 8 (hL 8 (by decide))
    have y9 : γ 9 = .agg #[.int .i64 (gx), .int .i64 (gy), .int .i64 (gz)] := hH.holds 9 (hL 9 (by decide))
    rw [ha]
    clear ha hH hL hLo
    simp only [RV.putAll, Act.put, List.setIfInBounds_toArray, List.set_cons_zero, List.set_cons_succ, Nat.zero_add, Nat.reduceAdd, y0, y1, y2, y3, y4, y5, y6, y7, y8, y9]
    clear y0 y1 y2 y3 y4 y5 y6 y7 y8 y9
    have y0 := c_after hb8 s0
    have y1 := c_after hb8 s1
    have y2 := c_after hb8 s2
    go_wp2_with (fail)
    exact bodyPost_ret (v := .agg #[.int .i64 gx, .int .i64 gy, .int .i64 gz]) (by simp [results, Tryz.results88, go_sem, y0, y1, y2]) rfl ⟨rfl, (((b_step HB.out hb8).setCell HRB.out _).setCell HRB.out _).setCell HRB.out _⟩
def wayOk (f t : V3) : Bool := Pt.inB ⟨f.x, f.y, f.z⟩ 1125899906842624 && Pt.inB ⟨t.x, t.y, t.z⟩ 1125899906842624
set_option maxHeartbeats 8000000 in
set_option maxRecDepth 100000 in
theorem rway18_any (f t : V3) (r : Int) (W : World) :
    Calls Tryz.prog 38 #[f.val, t.val, .int .i64 r] W fun e W' => Below W.heap.size W W' ∧ (wayOk f t = false → e = .returned (.tuple #[.agg #[.slice none 0 0, .slice none 0 0, .slice none 0 0, .int .i64 0], .agg #[.int .i64 0, .int .i64 0, .int .i64 0], .bool false])) ∧ (wayOk f t = true → ∃ g : Nat, e = .returned (.tuple #[.agg #[.slice (some ⟨g, 0, none⟩) 1 1, .slice none 0 0, .slice none 0 0, .int .i64 r], (wayZ f t).v, .bool ((wayZ f t).inB 4194304 && mayC (ballC f r))]) ∧ Lies W' (.slice (some ⟨g, 0, none⟩) 1 1) [grn f]) := by
  have HIN : Hid _ := fun (v : V3) w' => rin18_any v.x v.y v.z 1125899906842624 w' (by decide)
  have HIW : Hid _ := fun w' => rin18_any (wayZ f t).x (wayZ f t).y (wayZ f t).z 4194304 w' (by decide)
  have HGF : Hid _ := fun h w' => rgrn18_any f w' h
  have HGT : Hid _ := fun h w' => rgrn18_any t w' h
  have HMY : Hid _ := fun (pv : Value) (w' : World) (h : Lies w' pv [grn f]) => rmay9_any (ballC f r) pv (.slice none 0 0) (.slice none 0 0) w' h (lies_nil9 _) (lies_nil9 _)
  have HWO : Hid (wayOk f t = (Pt.inB ⟨f.x, f.y, f.z⟩ 1125899906842624 && Pt.inB ⟨t.x, t.y, t.z⟩ 1125899906842624)) := rfl
  have HBF := HIN.out f
  have HBT := HIN.out t
  have HSM : Hid (Pt.inB ⟨f.x, f.y, f.z⟩ 1125899906842624 = true → Pt.inB ⟨t.x, t.y, t.z⟩ 1125899906842624 = true → (grn f).inB 1073741824 = true ∧ (grn t).inB 1073741824 = true) := fun h1 h2 => by
    simp only [Pt.inB_iff] at *
    unfold grn
    dsimp only at *
    omega
  have HWZ : Hid (wayZ f t = ⟨(grn t).x - (grn f).x, (grn t).y - (grn f).y, (grn t).z - (grn f).z⟩) := rfl
  have HBA : Hid (ballC f r = ⟨[grn f], [], [], r⟩) := rfl
  generalize wayOk f t = ok at *
  generalize wayZ f t = wy at *
  generalize ballC f r = bc at *
  generalize grn f = gf at *
  generalize grn t = gt at *
  generalize Pt.inB ⟨f.x, f.y, f.z⟩ 1125899906842624 = b1 at *
  generalize Pt.inB ⟨t.x, t.y, t.z⟩ 1125899906842624 = b2 at *
  have HBF : Hid _ := HBF
  have HBT : Hid _ := HBT
  clear HIN
  obtain ⟨V, hV⟩ : ∃ V, V = ((((W.alloc (.cells #[.int .i64 f.x, .int .i64 f.y, .int .i64 f.z] 27)).alloc (.cells #[.int .i64 t.x, .int .i64 t.y, .int .i64 t.z] 27)).alloc (.cells #[.slice none 0 0, .slice none 0 0, .slice none 0 0, .int .i64 0] 35)).alloc (.cells #[.int .i64 0, .int .i64 0, .int .i64 0] 23)) := ⟨_, rfl⟩
  have hb0 := n_after W (.cells #[.int .i64 f.x, .int .i64 f.y, .int .i64 f.z] 27)
  have hb1 := n_after (W.alloc (.cells #[.int .i64 f.x, .int .i64 f.y, .int .i64 f.z] 27)) (.cells #[.int .i64 t.x, .int .i64 t.y, .int .i64 t.z] 27)
  have hb2 := n_after ((W.alloc (.cells #[.int .i64 f.x, .int .i64 f.y, .int .i64 f.z] 27)).alloc (.cells #[.int .i64 t.x, .int .i64 t.y, .int .i64 t.z] 27)) (.cells #[.slice none 0 0, .slice none 0 0, .slice none 0 0, .int .i64 0] 35)
  have hb3 := n_after (((W.alloc (.cells #[.int .i64 f.x, .int .i64 f.y, .int .i64 f.z] 27)).alloc (.cells #[.int .i64 t.x, .int .i64 t.y, .int .i64 t.z] 27)).alloc (.cells #[.slice none 0 0, .slice none 0 0, .slice none 0 0, .int .i64 0] 35)) (.cells #[.int .i64 0, .int .i64 0, .int .i64 0] 23)
  have Cf : CW V (W.heap.size) [.int .i64 f.x, .int .i64 f.y, .int .i64 f.z] := by
    have h9 := (((CW.new W [.int .i64 f.x, .int .i64 f.y, .int .i64 f.z] 27).step hb1).step hb2).step hb3
    rw [hV]; exact h9
  have Ct : CW V (W.heap.size + 1) [.int .i64 t.x, .int .i64 t.y, .int .i64 t.z] := by
    have h9 := ((CW.new (W.alloc (.cells #[.int .i64 f.x, .int .i64 f.y, .int .i64 f.z] 27)) [.int .i64 t.x, .int .i64 t.y, .int .i64 t.z] 27).step hb2).step hb3
    simp only [World.size_alloc] at h9
    rw [hV]; exact h9
  have Cc : CW V (W.heap.size + 1 + 1) [.slice none 0 0, .slice none 0 0, .slice none 0 0, .int .i64 0] := by
    have h9 := (CW.new ((W.alloc (.cells #[.int .i64 f.x, .int .i64 f.y, .int .i64 f.z] 27)).alloc (.cells #[.int .i64 t.x, .int .i64 t.y, .int .i64 t.z] 27)) [.slice none 0 0, .slice none 0 0, .slice none 0 0, .int .i64 0] 35).step hb3
    simp only [World.size_alloc] at h9
    rw [hV]; exact h9
  have Cw : CW V (W.heap.size + 1 + 1 + 1) [.int .i64 0, .int .i64 0, .int .i64 0] := by
    have h9 := CW.new (((W.alloc (.cells #[.int .i64 f.x, .int .i64 f.y, .int .i64 f.z] 27)).alloc (.cells #[.int .i64 t.x, .int .i64 t.y, .int .i64 t.z] 27)).alloc (.cells #[.slice none 0 0, .slice none 0 0, .slice none 0 0, .int .i64 0] 35)) [.int .i64 0, .int .i64 0, .int .i64 0] 23
    simp only [World.size_alloc] at h9
    rw [hV]; exact h9
  have hB : Below W.heap.size W V := by rw [hV]; exact (b_step (b_step (b_step hb0 hb1) hb2) hb3)
  clear hb0 hb1 hb2 hb3
  have HB : Hid _ := hB
  clear hB
  go_enter Tryz.func38, Tryz.ntmps38
  go_upto_region 1 with fail
  rw [← hV]
  clear hV
  obtain ⟨pw, hpw⟩ : ∃ p, p = W.heap.size + 1 + 1 + 1 := ⟨_, rfl⟩
  obtain ⟨pc, hpc⟩ : ∃ p, p = W.heap.size + 1 + 1 := ⟨_, rfl⟩
  obtain ⟨pt, hpt⟩ : ∃ p, p = W.heap.size + 1 := ⟨_, rfl⟩
  obtain ⟨pf, hpf⟩ : ∃ p, p = W.heap.size := ⟨_, rfl⟩
  rw [← hpw] at Cw
  rw [← hpc] at Cc
  rw [← hpt] at Ct
  rw [← hpf] at Cf
  rw [← hpw, ← hpc, ← hpt, ← hpf]
  have HPX : Hid ((pf = W.heap.size ∧ pt = W.heap.size + 1) ∧ pc = W.heap.size + 1 + 1 ∧ pw = W.heap.size + 1 + 1 + 1) := ⟨⟨hpf, hpt⟩, hpc, hpw⟩
  clear hpf hpt hpc hpw
  have Cf : Hid (CW _ _ _) := Cf
  have Ct : Hid (CW _ _ _) := Ct
  have Cc : Hid (CW _ _ _) := Cc
  have Cw : Hid (CW _ _ _) := Cw
  have f0 := (Cf.out 0 _ rfl).1
  have f1 := (Cf.out 1 _ rfl).1
  have f2 := (Cf.out 2 _ rfl).1
  have t0 := (Ct.out 0 _ rfl).1
  have t1 := (Ct.out 1 _ rfl).1
  have t2 := (Ct.out 2 _ rfl).1
  go_wp2_with (fail)
  refine Calls.mono (HBF.out _) ?_
  rintro e V1 ⟨rfl, hb⟩
  have HB : Hid _ := b_step HB.out hb
  have Cf : Hid (CW _ _ _) := Cf.out.step hb
  have Ct : Hid (CW _ _ _) := Ct.out.step hb
  have Cc : Hid (CW _ _ _) := Cc.out.step hb
  have Cw : Hid (CW _ _ _) := Cw.out.step hb
  clear hb f0 f1 f2 t0 t1 t2 HBF
  have f0 := (Cf.out 0 _ rfl).1
  have f1 := (Cf.out 1 _ rfl).1
  have f2 := (Cf.out 2 _ rfl).1
  have t0 := (Ct.out 0 _ rfl).1
  have t1 := (Ct.out 1 _ rfl).1
  have t2 := (Ct.out 2 _ rfl).1
  go_wp2_with (fail)
  refine Calls.mono (HBT.out _) ?_
  rintro e V2 ⟨rfl, hb⟩
  have HB : Hid _ := b_step HB.out hb
  have Cf : Hid (CW _ _ _) := Cf.out.step hb
  have Ct : Hid (CW _ _ _) := Ct.out.step hb
  have Cc : Hid (CW _ _ _) := Cc.out.step hb
  have Cw : Hid (CW _ _ _) := Cw.out.step hb
  clear hb f0 f1 f2 t0 t1 t2 HBT
  by_cases hbb : (b1 && b2) = true
  · have hok : ok = true := by rw [HWO.out]; exact hbb
    obtain ⟨rfl, rfl⟩ : b1 = true ∧ b2 = true := by simpa using hbb
    subst hok
    obtain ⟨gxf, gxt⟩ := HSM.out rfl rfl
    have HG1 : Hid _ := HGF.out rfl
    have HG2 : Hid _ := HGT.out rfl
    clear HGF HGT
    dsimp only [V3.val] at HG1 HG2
    obtain ⟨gx, gy, gz⟩ := gf
    obtain ⟨hx, hy, hz⟩ := gt
    rw [Pt.inB_iff] at gxf gxt
    dsimp only at *
    obtain ⟨wx, hwx⟩ : ∃ x, hx - gx = x := ⟨_, rfl⟩
    have w_x : IntKind.i64.wrap (hx - gx) = wx := by rw [IntKind.wrap_i64]; omega
    obtain ⟨wq, hwq⟩ : ∃ x, hy - gy = x := ⟨_, rfl⟩
    have w_y : IntKind.i64.wrap (hy - gy) = wq := by rw [IntKind.wrap_i64]; omega
    obtain ⟨wz, hwz⟩ : ∃ x, hz - gz = x := ⟨_, rfl⟩
    have w_z : IntKind.i64.wrap (hz - gz) = wz := by rw [IntKind.wrap_i64]; omega
    have hwy : wy = ⟨wx, wq, wz⟩ := by rw [HWZ.out, hwx, hwq, hwz]
    subst hwy
    clear gxf gxt hwx hwq hwz HWZ HWO HSM hbb
    unfold Pt.v at *
    dsimp only at *
    have f0 := (Cf.out 0 _ rfl).1
    have f1 := (Cf.out 1 _ rfl).1
    have f2 := (Cf.out 2 _ rfl).1
    go_wp2_with (fail)
    refine Calls.mono (HG1.out _) ?_
    rintro e V3 ⟨rfl, hb⟩
    have hb3 := b_step hb (n_after V3 (.cells #[.int .i64 gx, .int .i64 gy, .int .i64 gz] 23))
    obtain ⟨V4, hV4⟩ : ∃ V, V = V3.alloc (.cells #[.int .i64 gx, .int .i64 gy, .int .i64 gz] 23) := ⟨_, rfl⟩
    obtain ⟨gb, hgb⟩ : ∃ b, b = V3.heap.size := ⟨_, rfl⟩
    have cg := CW.new V3 [.int .i64 gx, .int .i64 gy, .int .i64 gz] 23
    rw [← hgb, ← hV4] at cg
    rw [← hV4] at hb3
    have CG : Hid (CW _ _ _) := cg
    have HB : Hid _ := b_step HB.out hb3
    have Ct : Hid (CW _ _ _) := Ct.out.step hb3
    have Cc : Hid (CW _ _ _) := Cc.out.step hb3
    have Cw : Hid (CW _ _ _) := Cw.out.step hb3
    clear hb hb3 cg f0 f1 f2 HG1 Cf
    go_upto_region 6 with fail
    rw [← hV4, ← hgb]
    clear hV4 hgb
    have t0 := (Ct.out 0 _ rfl).1
    have t1 := (Ct.out 1 _ rfl).1
    have t2 := (Ct.out 2 _ rfl).1
    go_wp2_with (fail)
    refine Calls.mono (HG2.out _) ?_
    rintro e V5 ⟨rfl, hb⟩
    have hb3 := b_step hb (n_after V5 (.cells #[.int .i64 hx, .int .i64 hy, .int .i64 hz] 23))
    obtain ⟨V6, hV6⟩ : ∃ V, V = V5.alloc (.cells #[.int .i64 hx, .int .i64 hy, .int .i64 hz] 23) := ⟨_, rfl⟩
    obtain ⟨hb_, hhb⟩ : ∃ b, b = V5.heap.size := ⟨_, rfl⟩
    have cg := CW.new V5 [.int .i64 hx, .int .i64 hy, .int .i64 hz] 23
    rw [← hhb, ← hV6] at cg
    rw [← hV6] at hb3
    have CH : Hid (CW _ _ _) := cg
    have HB : Hid _ := b_step HB.out hb3
    have CG : Hid (CW _ _ _) := CG.out.step hb3
    have Cc : Hid (CW _ _ _) := Cc.out.step hb3
    have Cw : Hid (CW _ _ _) := Cw.out.step hb3
    clear hb hb3 cg t0 t1 t2 HG2 Ct
    go_upto_region 7 with fail
    rw [← hV6, ← hhb]
    clear hV6 hhb
    obtain ⟨V7, hV7⟩ : ∃ V, V = (V6.alloc (.cells #[.int .i64 gx, .int .i64 gy, .int .i64 gz] 23)).alloc (.cells #[.slice (some ⟨V6.heap.size, 0, none⟩) 1 1, .slice none 0 0, .slice none 0 0, .int .i64 r] 35) := ⟨_, rfl⟩
    obtain ⟨sg, hsg⟩ : ∃ b, b = V6.heap.size := ⟨_, rfl⟩
    obtain ⟨cb, hcb⟩ : ∃ b, b = V6.heap.size + 1 := ⟨_, rfl⟩
    have HSG : Hid ((sg ≠ pc ∧ sg ≠ pw) ∧ cb ≠ pc ∧ cb ≠ pw) := by have h1 := CW.lt Cc.out; have h2 := CW.lt Cw.out; show _ ∧ _; omega
    have k1 := n_after V6 (.cells #[.int .i64 gx, .int .i64 gy, .int .i64 gz] 23)
    have k2 := n_after (V6.alloc (.cells #[.int .i64 gx, .int .i64 gy, .int .i64 gz] 23)) (.cells #[.slice (some ⟨V6.heap.size, 0, none⟩) 1 1, .slice none 0 0, .slice none 0 0, .int .i64 r] 35)
    have c1 := (Cel.new V6 [.int .i64 gx, .int .i64 gy, .int .i64 gz] 23).step k2
    have c2 := CW.new (V6.alloc (.cells #[.int .i64 gx, .int .i64 gy, .int .i64 gz] 23)) [.slice (some ⟨V6.heap.size, 0, none⟩) 1 1, .slice none 0 0, .slice none 0 0, .int .i64 r] 35
    rw [World.size_alloc, ← hcb, ← hsg] at c2
    rw [← hsg] at c1 hV7
    rw [← hV7] at c1 c2
    have hb3 : Below V6.heap.size V6 V7 := by rw [hV7, hsg]; exact b_step k1 k2
    have LG : Hid (Lies V7 (.slice (some ⟨sg, 0, none⟩) 1 1) [⟨gx, gy, gz⟩]) := lies_one9 c1
    have CB : Hid (CW _ _ _) := c2
    have HB : Hid _ := b_step HB.out hb3
    have CG7 : Hid (CW _ _ _) := CG.out.step hb3
    have CH : Hid (CW _ _ _) := CH.out.step hb3
    have Cc : Hid (CW _ _ _) := Cc.out.step hb3
    have Cw : Hid (CW _ _ _) := Cw.out.step hb3
    have g0 := (CG.out 0 _ rfl).1
    have g1 := (CG.out 1 _ rfl).1
    have g2 := (CG.out 2 _ rfl).1
    clear k1 k2 c1 c2 hb3
    go_upto_region 8 with fail
    rw [← hcb, ← hsg, ← hV7]
    clear hV7 hsg hcb g0 g1 g2 CG
    obtain ⟨V8, hV8⟩ : ∃ V, V = V7.alloc (.cells #[.int .i64 wx, .int .i64 wq, .int .i64 wz] 23) := ⟨_, rfl⟩
    obtain ⟨yb, hyb⟩ : ∃ b, b = V7.heap.size := ⟨_, rfl⟩
    have HYC : Hid (yb ≠ pc ∧ yb ≠ pw) := by have h1 := CW.lt Cc.out; have h2 := CW.lt Cw.out; show _ ∧ _; omega
    have hb3 : Below V7.heap.size V7 V8 := by rw [hV8]; exact n_after _ _
    have c1 : CW V8 yb [.int .i64 wx, .int .i64 wq, .int .i64 wz] := by rw [hV8, hyb]; exact CW.new V7 [.int .i64 wx, .int .i64 wq, .int .i64 wz] 23
    have CY : Hid (CW _ _ _) := c1
    have g0 := (CG7.out 0 _ rfl).1
    have h0 := (CH.out 0 _ rfl).1
    have g1 := (CG7.out 1 _ rfl).1
    have h1 := (CH.out 1 _ rfl).1
    have g2 := (CG7.out 2 _ rfl).1
    have h2 := (CH.out 2 _ rfl).1
    have LG : Hid _ := LG.out.below hb3
    have CB : Hid (CW _ _ _) := CB.out.step hb3
    have HB : Hid _ := b_step HB.out hb3
    have Cc : Hid (CW _ _ _) := Cc.out.step hb3
    have Cw : Hid (CW _ _ _) := Cw.out.step hb3
    clear hb3 c1
    go_upto_region 9 with fail
    rw [← hV8, ← hyb]
    clear hV8 hyb g0 g1 g2 h0 h1 h2 CG7 CH
    have y0 := (CY.out 0 _ rfl).1
    have y1 := (CY.out 1 _ rfl).1
    have y2 := (CY.out 2 _ rfl).1
    go_wp2_with (fail)
    refine Calls.mono (HIW.out _) ?_
    rintro e V9 ⟨rfl, hb⟩
    have LG : Hid _ := LG.out.below hb
    have CB : Hid (CW _ _ _) := CB.out.step hb
    have CY : Hid (CW _ _ _) := CY.out.step hb
    have HB : Hid _ := b_step HB.out hb
    have Cc : Hid (CW _ _ _) := Cc.out.step hb
    have Cw : Hid (CW _ _ _) := Cw.out.step hb
    clear hb y0 y1 y2 HIW
    have HM9 : Hid _ := HMY.out _ V9 LG.out
    unfold coreA at HM9
    have hr9 : bc.r = r := by rw [HBA.out]
    rw [hr9] at HM9
    clear hr9 HMY HBA
    have b0 := (CB.out 0 _ rfl).1
    have b1 := (CB.out 1 _ rfl).1
    have b2 := (CB.out 2 _ rfl).1
    have b3 := (CB.out 3 _ rfl).1
    go_wp2_with (fail)
    refine Calls.mono HM9.out ?_
    rintro e Va ⟨rfl, hb⟩
    have LG : Hid _ := LG.out.below hb
    have CB : Hid (CW _ _ _) := CB.out.step hb
    have CY : Hid (CW _ _ _) := CY.out.step hb
    have HB : Hid _ := b_step HB.out hb
    have Cc : Hid (CW _ _ _) := Cc.out.step hb
    have Cw : Hid (CW _ _ _) := Cw.out.step hb
    clear hb b0 b1 b2 b3 HM9
    have b0 := (CB.out 0 _ rfl).1
    have b1 := (CB.out 1 _ rfl).1
    have b2 := (CB.out 2 _ rfl).1
    have b3 := (CB.out 3 _ rfl).1
    have y0 := (CY.out 0 _ rfl).1
    have y1 := (CY.out 1 _ rfl).1
    have y2 := (CY.out 2 _ rfl).1
    have HNB : Hid ((W.heap.size ≤ pc ∧ W.heap.size ≤ pw) ∧ pc ≠ pw) := by have := HPX.out; show _ ∧ _; omega
    have hcw : pc ≠ pw := HNB.out.2
    have hwc : pw ≠ pc := Ne.symm hcw
    obtain ⟨c0, cf0⟩ := Cc.out 0 _ rfl
    obtain ⟨c1, cf1⟩ := Cc.out 1 _ rfl
    obtain ⟨c2, cf2⟩ := Cc.out 2 _ rfl
    obtain ⟨c3, cf3⟩ := Cc.out 3 _ rfl
    obtain ⟨w0, wf0⟩ := Cw.out 0 _ rfl
    obtain ⟨w1, wf1⟩ := Cw.out 1 _ rfl
    obtain ⟨w2, wf2⟩ := Cw.out 2 _ rfl
    obtain ⟨a1, ha1⟩ : ∃ x, (⟨wx, wq, wz⟩ : Pt).inB 4194304 = x := ⟨_, rfl⟩
    obtain ⟨a2, ha2⟩ : ∃ x, mayC bc = x := ⟨_, rfl⟩
    rw [ha1, ha2]
    have HA1 : Hid _ := ha1
    have HA2 : Hid _ := ha2
    clear ha1 ha2
    have hsc : ∀ q n c, Value.slice (some ⟨sg, 0, none⟩) 1 1 = .slice (some q) n c → ([⟨gx, gy, gz⟩] : List Pt) ≠ [] → q.block ≠ pc := fun q n c e _ => by cases e; exact HSG.out.1.1
    have hsw : ∀ q n c, Value.slice (some ⟨sg, 0, none⟩) 1 1 = .slice (some q) n c → ([⟨gx, gy, gz⟩] : List Pt) ≠ [] → q.block ≠ pw := fun q n c e _ => by cases e; exact HSG.out.1.2
    have F1 : Lies (((((((Va.setCell ⟨pc, 0, none⟩ (.slice (some ⟨sg, 0, none⟩) 1 1)).setCell ⟨pc, 1, none⟩ (.slice none 0 0)).setCell ⟨pc, 2, none⟩ (.slice none 0 0)).setCell ⟨pc, 3, none⟩ (.int .i64 r)).setCell ⟨pw, 0, none⟩ (.int .i64 wx)).setCell ⟨pw, 1, none⟩ (.int .i64 wq)).setCell ⟨pw, 2, none⟩ (.int .i64 wz)) (.slice (some ⟨sg, 0, none⟩) 1 1) [⟨gx, gy, gz⟩] ∧ Below W.heap.size W (((((((Va.setCell ⟨pc, 0, none⟩ (.slice (some ⟨sg, 0, none⟩) 1 1)).setCell ⟨pc, 1, none⟩ (.slice none 0 0)).setCell ⟨pc, 2, none⟩ (.slice none 0 0)).setCell ⟨pc, 3, none⟩ (.int .i64 r)).setCell ⟨pw, 0, none⟩ (.int .i64 wx)).setCell ⟨pw, 1, none⟩ (.int .i64 wq)).setCell ⟨pw, 2, none⟩ (.int .i64 wz)) := ⟨((((((LG.out.grown (setg9 _ pc 0 _) hsc).grown (setg9 _ pc 1 _) hsc).grown (setg9 _ pc 2 _) hsc).grown (setg9 _ pc 3 _) hsc).grown (setg9 _ pw 0 _) hsw).grown (setg9 _ pw 1 _) hsw).grown (setg9 _ pw 2 _) hsw, ((((((HB.out.setCell HNB.out.1.1 _).setCell HNB.out.1.1 _).setCell HNB.out.1.1 _).setCell HNB.out.1.1 _).setCell HNB.out.1.2 _).setCell HNB.out.1.2 _).setCell HNB.out.1.2 _⟩
    obtain ⟨Y, hY⟩ : ∃ Y, Y = (((((((Va.setCell ⟨pc, 0, none⟩ (.slice (some ⟨sg, 0, none⟩) 1 1)).setCell ⟨pc, 1, none⟩ (.slice none 0 0)).setCell ⟨pc, 2, none⟩ (.slice none 0 0)).setCell ⟨pc, 3, none⟩ (.int .i64 r)).setCell ⟨pw, 0, none⟩ (.int .i64 wx)).setCell ⟨pw, 1, none⟩ (.int .i64 wq)).setCell ⟨pw, 2, none⟩ (.int .i64 wz)).drew := ⟨_, rfl⟩
    have FY : Hid (Lies Y (.slice (some ⟨sg, 0, none⟩) 1 1) [⟨gx, gy, gz⟩] ∧ Below W.heap.size W Y) := by show _ ∧ _; rw [hY]; exact ⟨F1.1.below ((Below.refl _ _).drew), F1.2.drew⟩
    have p0 : Y.cell? ⟨pc, 0, none⟩ = some (.slice (some ⟨sg, 0, none⟩) 1 1) := by rw [hY]; simp [go_sem, c0]
    have p1 : Y.cell? ⟨pc, 1, none⟩ = some (.slice none 0 0) := by rw [hY]; simp [go_sem, c1]
    have p2 : Y.cell? ⟨pc, 2, none⟩ = some (.slice none 0 0) := by rw [hY]; simp [go_sem, c2]
    have p3 : Y.cell? ⟨pc, 3, none⟩ = some (.int .i64 r) := by rw [hY]; simp [go_sem, c3]
    have q0 : Y.cell? ⟨pw, 0, none⟩ = some (.int .i64 wx) := by rw [hY]; simp [go_sem, w0]
    have q1 : Y.cell? ⟨pw, 1, none⟩ = some (.int .i64 wq) := by rw [hY]; simp [go_sem, w1]
    have q2 : Y.cell? ⟨pw, 2, none⟩ = some (.int .i64 wz) := by rw [hY]; simp [go_sem, w2]
    obtain ⟨ncc, ncw⟩ := HSG.out.2
    obtain ⟨nyc, nyw⟩ := HYC.out
    clear F1 hsc hsw HSG HNB LG CB CY HB Cc Cw HPX HYC
    go_upto_region 11 with fail
    cases a1
    all_goals
      go_region
      rw [← hY]
      clear hY c0 c1 c2 c3 w0 w1 w2 cf0 cf1 cf2 cf3 wf0 wf1 wf2 b0 b1 b2 b3 y0 y1 y2 hcw hwc ncc ncw nyc nyw
      go_wp2_with (fail)
    · exact bodyPost_ret (v := .tuple #[.agg #[.slice (some ⟨sg, 0, none⟩) 1 1, .slice none 0 0, .slice none 0 0, .int .i64 r], .agg #[.int .i64 wx, .int .i64 wq, .int .i64 wz], .bool false]) (by simp [results, Tryz.results38, go_sem, p0, p1, p2, p3, q0, q1, q2]) rfl ⟨FY.out.2, sg, by rw [HA1.out]; rfl, FY.out.1⟩
    · exact bodyPost_ret (v := .tuple #[.agg #[.slice (some ⟨sg, 0, none⟩) 1 1, .slice none 0 0, .slice none 0 0, .int .i64 r], .agg #[.int .i64 wx, .int .i64 wq, .int .i64 wz], .bool a2]) (by simp [results, Tryz.results38, go_sem, p0, p1, p2, p3, q0, q1, q2]) rfl ⟨FY.out.2, sg, by rw [HA1.out, HA2.out]; rfl, FY.out.1⟩
  · have hok : ok = false := by rw [HWO.out]; simpa using hbb
    subst hok
    have HNB : Hid ((W.heap.size ≤ pc ∧ W.heap.size ≤ pw) ∧ pc ≠ pw) := by have := HPX.out; show _ ∧ _; omega
    have hcw : pc ≠ pw := HNB.out.2
    have hwc : pw ≠ pc := Ne.symm hcw
    obtain ⟨c0, cf0⟩ := Cc.out 0 _ rfl
    obtain ⟨c1, cf1⟩ := Cc.out 1 _ rfl
    obtain ⟨c2, cf2⟩ := Cc.out 2 _ rfl
    obtain ⟨c3, cf3⟩ := Cc.out 3 _ rfl
    obtain ⟨w0, wf0⟩ := Cw.out 0 _ rfl
    obtain ⟨w1, wf1⟩ := Cw.out 1 _ rfl
    obtain ⟨w2, wf2⟩ := Cw.out 2 _ rfl
    have HZ : Hid _ := ((((((HB.out.setCell HNB.out.1.1 (.slice none 0 0) (p := ⟨pc, 0, none⟩)).setCell HNB.out.1.1 (.slice none 0 0) (p := ⟨pc, 1, none⟩)).setCell HNB.out.1.1 (.slice none 0 0) (p := ⟨pc, 2, none⟩)).setCell HNB.out.1.1 (.int .i64 0) (p := ⟨pc, 3, none⟩)).setCell HNB.out.1.2 (.int .i64 0) (p := ⟨pw, 0, none⟩)).setCell HNB.out.1.2 (.int .i64 0) (p := ⟨pw, 1, none⟩)).setCell HNB.out.1.2 (.int .i64 0) (p := ⟨pw, 2, none⟩)
    have hc9 : b1 = false ∨ b1 = true ∧ b2 = false := by
      cases b1 with
      | false => exact Or.inl rfl
      | true => exact Or.inr ⟨rfl, by simpa using hbb⟩
    clear HIW HMY HWO HSM HWZ HBA HB HPX HNB Cf Ct Cc Cw hbb HGF HGT
    rcases hc9 with rfl | ⟨rfl, rfl⟩
    all_goals
      go_wp2_with (fail)
      exact bodyPost_ret (v := .tuple #[.agg #[.slice none 0 0, .slice none 0 0, .slice none 0 0, .int .i64 0], .agg #[.int .i64 0, .int .i64 0, .int .i64 0], .bool false]) (by simp [results, Tryz.results38, go_sem, c0, c1, c2, c3, w0, w1, w2]) rfl ⟨HZ.out, rfl⟩
end Go.Proofs.YtbhdfjoagajipaaGreat
namespace Go.Proofs.YtbhdfjoagajipaaGreat
open Go.RowKit Go.Shelf
set_option linter.unusedVariables false

theorem liesC_one {W : World} {g : Nat} {c : Cr} {pv av ev : Value} (h : Cel W g [pv, av, ev, .int .i64 c.r]) (l1 : Lies W pv c.P) (l2 : Lies W av c.A) (l3 : Lies W ev c.E) : LiesC W (.slice (some ⟨g, 0, none⟩) 1 1) [c] := by
  refine ⟨_, 1, rfl, Nat.le_refl _, by omega, fun i hi => ?_⟩
  have e : i = 0 := by simp at hi; exact hi
  subst e
  exact ⟨g, 0, pv, av, ev, rfl, h 0 _ rfl, h 1 _ rfl, h 2 _ rfl, h 3 _ rfl, l1, l2, l3⟩
end Go.Proofs.YtbhdfjoagajipaaGreat
