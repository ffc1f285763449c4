/- Reach, as package narrow tells it. -/
import Derived.Test.YtccdgpijjgeedaaKNrN
namespace Go.Proofs.Ytccdgpijjgeedaa
open Go.RowKit Go.Shelf
set_option linter.unusedVariables false

def reachOk (P : List Pt) (n : Pt) : Bool := !decide ((P.length : Int) = 0) && (n.inB 67108864 && P.all (·.inB 67108864))
def reachV (P : List Pt) (n : Pt) : Value := cond (reachOk P n) (.tuple #[.int .i64 (loP n P), .int .i64 (hiP n P)]) (.tuple #[.int .i64 0, .int .i64 0])
set_option maxHeartbeats 4000000 in
set_option maxRecDepth 100000 in
theorem nreach_any (c : Cr) (n : Pt) (pv av ev : Value) (w0 : World) (hp : Lies w0 pv c.P) (ha : Lies w0 av c.A) (he : Lies w0 ev c.E) :
    Calls Try.prog 14 #[coreA pv av ev c.r, n.v] w0 fun e W => e = .returned (reachV c.P n) ∧ Below w0.heap.size w0 W := by
  obtain ⟨P, A, E, r⟩ := c
  dsimp only at *
  have HE : Hid _ := fun (w' : World) (h : Below w0.heap.size w0 w') (h0 : ¬ (P.length : Int) = 0) (h1 : n.inB 67108864 = true) (h2 : P.all (·.inB 67108864) = true) => nends_any n P pv w' (hp.below h) (by omega) h1 (fun p hp => List.all_eq_true.1 h2 p hp)
  have H2 : Hid _ := fun (w' : World) (h : Below w0.heap.size w0 w') => nall_any P 67108864 _ w' (hp.below h) (by decide) (by decide)
  have H1 : Hid _ := fun w' => nwithin_any n 67108864 w' (by decide) (by decide)
  obtain ⟨o, cap, rfl, hlc, hcm, _⟩ := hp.form
  obtain ⟨o2, cap2, rfl, _, _, _⟩ := ha.form
  obtain ⟨o3, cap3, rfl, _, _, _⟩ := he.form
  clear hp ha he hlc hcm
  have HR : Hid (reachV P n = cond (!decide ((P.length : Int) = 0) && (n.inB 67108864 && P.all (·.inB 67108864))) (.tuple #[.int .i64 (loP n P), .int .i64 (hiP n P)]) (.tuple #[.int .i64 0, .int .i64 0])) := rfl
  generalize reachV P n = R9 at *
  generalize P.all (·.inB 67108864) = k2 at *
  generalize n.inB 67108864 = k1 at *
  generalize loP n P = lo at *
  generalize hiP n P = hi at *
  obtain ⟨x, y, z⟩ := n
  unfold coreA Pt.v at *
  dsimp only at *
  obtain ⟨V, hV⟩ : ∃ V, V = (w0.alloc (.cells #[.slice o P.length cap, .slice o2 A.length cap2, .slice o3 E.length cap3, .int .i64 r] 24)).alloc (.cells #[.int .i64 x, .int .i64 y, .int .i64 z] 26) := ⟨_, rfl⟩
  obtain ⟨cb, hcb⟩ : ∃ b, b = w0.heap.size := ⟨_, rfl⟩
  obtain ⟨nb, hnb⟩ : ∃ b, b = w0.heap.size + 1 := ⟨_, rfl⟩
  have HB : Hid (Below w0.heap.size w0 V) := by show Below _ _ _; rw [hV]; exact b_step (n_after _ _) (n_after _ _)
  have c9 := Cel.two w0 [.slice o P.length cap, .slice o2 A.length cap2, .slice o3 E.length cap3, .int .i64 r] [.int .i64 x, .int .i64 y, .int .i64 z] 24 26
  have CC : Hid (Cel V cb [.slice o P.length cap, .slice o2 A.length cap2, .slice o3 E.length cap3, .int .i64 r]) := by show Cel _ _ _; rw [hV, hcb]; exact c9.1
  have CN : Hid (Cel V nb [.int .i64 x, .int .i64 y, .int .i64 z]) := by show Cel _ _ _; rw [hV, hnb]; exact c9.2
  clear c9
  go_enter Try.func14, Try.ntmps14
  go_upto_region 1 with fail
  rw [← hV, ← hnb, ← hcb]
  clear hV hcb hnb
  have q0 := CC.out 0 _ rfl
  have d0 := CN.out 0 _ rfl
  have d1 := CN.out 1 _ rfl
  have d2 := CN.out 2 _ rfl
  by_cases hl : (P.length : Int) = 0
  · rw [decide_eq_true hl] at HR
    go_wp2_with (fail)
    exact bodyPost_ret (v := .tuple #[.int .i64 0, .int .i64 0]) (by simp [results, Try.results14, go_sem]) rfl ⟨by rw [HR.out]; rfl, HB.out⟩
  · rw [decide_eq_false hl] at HR
    have hl2 : ¬ P.length = 0 := by omega
    have hl3 : ¬ P = [] := fun e => hl2 (by rw [e]; rfl)
    go_wp2_with (fail)
    refine Calls.mono (H1.out _) ?_
    rintro e V1 ⟨rfl, hb⟩
    have CC : Hid _ := Cel.step CC.out hb
    have CN : Hid _ := Cel.step CN.out hb
    have HB : Hid _ := b_step HB.out hb
    clear hb q0 d0 d1 d2
    have q0 := CC.out 0 _ rfl
    cases k1 with
    | false =>
      go_wp2_with (fail)
      exact bodyPost_ret (v := .tuple #[.int .i64 0, .int .i64 0]) (by simp [results, Try.results14, go_sem]) rfl ⟨by rw [HR.out]; rfl, HB.out⟩
    | true =>
      go_wp2_with (fail)
      refine Calls.mono (H2.out _ HB.out) ?_
      rintro e V2 ⟨rfl, hb⟩
      have CC : Hid _ := Cel.step CC.out hb
      have CN : Hid _ := Cel.step CN.out hb
      have HB : Hid _ := b_step HB.out hb
      clear hb q0
      have q0 := CC.out 0 _ rfl
      have d0 := CN.out 0 _ rfl
      have d1 := CN.out 1 _ rfl
      have d2 := CN.out 2 _ rfl
      cases k2 with
      | false =>
        go_wp2_with (fail)
        exact bodyPost_ret (v := .tuple #[.int .i64 0, .int .i64 0]) (by simp [results, Try.results14, go_sem]) rfl ⟨by rw [HR.out]; rfl, HB.out⟩
      | true =>
        go_wp2_with (fail)
        refine Calls.mono (HE.out _ HB.out hl trivial trivial) ?_
        rintro e V3 ⟨rfl, hb⟩
        have HB : Hid _ := b_step HB.out hb
        clear hb q0 d0 d1 d2
        go_wp2_with (fail)
        exact bodyPost_ret (v := .tuple #[.int .i64 lo, .int .i64 hi]) (by simp [results, Try.results14, go_sem]) rfl ⟨by rw [HR.out]; rfl, HB.out⟩
end Go.Proofs.Ytccdgpijjgeedaa
