/- Package pose: Place, all cores and poses. -/
import Derived.Test.YtompnibhfdkkjaaGreatSPPlace14
import Derived.Test.YtompnibhfdkkjaaGreatSPPlace17
import Derived.Test.YtompnibhfdkkjaaGreatSPPlace9
namespace Go.Proofs.YtompnibhfdkkjaaGreat
open Go.RowKit Go.Shelf
set_option linter.unusedVariables false

/-- Whether something is too great on the way. -/
def badP (t : Pt) (q : Q4) (P A E : List Pt) : Bool := rowsB q || P.any ((rowsM q).ptB t) || A.any (rowsM q).dirB || E.any (rowsM q).dirB
def nearP (P : List Pt) : Bool := P.all fun p => p.win 8388608
def placeOk (t : Pt) (q : Q4) (P A E : List Pt) : Bool := placeableP P A E && (!(badP t q P A E) && nearP (P.map ((rowsM q).ptV t)))
set_option maxHeartbeats 8000000 in
set_option maxRecDepth 100000 in
theorem place_any (t : Pt) (q : Q4) (Ps As Es : List Pt) (r : Int) (pv av ev : Value) (w0 : World) (hp : Lies w0 pv Ps) (ha : Lies w0 av As) (he : Lies w0 ev Es) (hNPs : Ps.length < 1099511627776) (hNAs : As.length < 1099511627776) (hNEs : Es.length < 1099511627776) :
    Calls Tryz.prog 6 #[coreV pv av ev r, poseV t q] w0 fun e W => ∃ vp va ve, (placeOk t q Ps As Es = false → e = .returned (.tuple #[.agg #[vp, va, ve, .int .i64 0], .bool false]) ∧ Three w0 W vp va ve [] [] []) ∧ (placeOk t q Ps As Es = true → e = .returned (.tuple #[.agg #[vp, va, ve, .int .i64 r], .bool true]) ∧ Three w0 W vp va ve (Ps.map ((rowsM q).ptV t)) ((rowsM q).dirs As) ((rowsM q).dirs Es)) := by
  have H1 : Hid (∀ W, Below w0.heap.size w0 W → Calls Tryz.prog 18 #[coreV pv av ev r] W fun e V => e = .returned (.bool (placeableP Ps As Es)) ∧ Below W.heap.size W V) := fun W hb => placeable_any Ps As Es r pv av ev W (hp.below hb) (ha.below hb) (he.below hb)
  have H2 : Hid _ := fun W => framed_any t q W
  have HOK : Hid (placeOk t q Ps As Es = (placeableP Ps As Es && (!(badP t q Ps As Es) && nearP (Ps.map ((rowsM q).ptV t))))) := rfl
  obtain ⟨OK, hOK⟩ : ∃ OK, placeOk t q Ps As Es = OK := ⟨_, rfl⟩
  rw [hOK] at HOK ⊢
  clear hOK
  generalize placeableP Ps As Es = pl at *
  unfold badP nearP at HOK
  generalize rowsM q = m at *
  generalize rowsB q = f at *
  obtain ⟨Px2, hP2⟩ : ∃ X, Ps.map (m.ptV t) = X := ⟨_, rfl⟩
  obtain ⟨Ax2, hA2⟩ : ∃ X, m.dirs As = X := ⟨_, rfl⟩
  obtain ⟨Ex2, hE2⟩ : ∃ X, m.dirs Es = X := ⟨_, rfl⟩
  obtain ⟨b1, hb1⟩ : ∃ X, Ps.any (m.ptB t) = X := ⟨_, rfl⟩
  obtain ⟨b2, hb2⟩ : ∃ X, As.any m.dirB = X := ⟨_, rfl⟩
  obtain ⟨b3, hb3⟩ : ∃ X, Es.any m.dirB = X := ⟨_, rfl⟩
  rw [hP2, hb1, hb2, hb3] at HOK
  rw [hP2, hA2, hE2]
  have HDPs : Hid _ := hP2
  have HDAs : Hid _ := hA2
  have HDEs : Hid _ := hE2
  have HBPs : Hid _ := hb1
  have HBAs : Hid _ := hb2
  have HBEs : Hid _ := hb3
  clear hP2 hA2 hE2 hb1 hb2 hb3
  obtain ⟨opv, cpv, rfl, _⟩ := hp.form
  obtain ⟨oav, cav, rfl, _⟩ := ha.form
  obtain ⟨oev, cev, rfl, _⟩ := he.form
  have HLP0 : Hid _ := hp
  have HLA0 : Hid _ := ha
  have HLE0 : Hid _ := he
  clear hp ha he
  unfold poseV at H2
  unfold coreV at H1
  unfold coreV poseV
  obtain ⟨V0, hV0⟩ : ∃ V0, V0 = ((w0.alloc (.cells #[.slice opv Ps.length cpv, .slice oav As.length cav, .slice oev Es.length cev, .int .i64 r] 24)).alloc (.cells #[.int .i64 t.x, .int .i64 t.y, .int .i64 t.z, .int .i64 q.w, .int .i64 q.x, .int .i64 q.y, .int .i64 q.z] 30)).alloc (.cells #[.slice none 0 0, .slice none 0 0, .slice none 0 0, .int .i64 0] 24) := ⟨_, rfl⟩
  have hB0 : Hid (Below w0.heap.size w0 V0) := by show Below _ _ _; rw [hV0]; exact b_step (b_step (n_after _ _) (n_after _ _)) (n_after _ _)
  have HCB : Hid (Cells V0 w0.heap.size [.slice opv Ps.length cpv, .slice oav As.length cav, .slice oev Es.length cev, .int .i64 r]) := by show Cells _ _ _; rw [hV0]; exact ((Cells.new w0 _ _).step (n_after _ _)).step (n_after _ _)
  have HPB : Hid (Cells V0 (w0.heap.size + 1) [.int .i64 t.x, .int .i64 t.y, .int .i64 t.z, .int .i64 q.w, .int .i64 q.x, .int .i64 q.y, .int .i64 q.z]) := by show Cells _ _ _; rw [hV0]; have h9 := (Cells.new (w0.alloc (.cells #[.slice opv Ps.length cpv, .slice oav As.length cav, .slice oev Es.length cev, .int .i64 r] 24)) [.int .i64 t.x, .int .i64 t.y, .int .i64 t.z, .int .i64 q.w, .int .i64 q.x, .int .i64 q.y, .int .i64 q.z] 30).step (n_after _ (.cells #[.slice none 0 0, .slice none 0 0, .slice none 0 0, .int .i64 0] 24)); rw [World.size_alloc] at h9; exact h9
  have HRB : Hid (Cells V0 (w0.heap.size + 1 + 1) [.slice none 0 0, .slice none 0 0, .slice none 0 0, .int .i64 0]) := by show Cells _ _ _; rw [hV0]; have h9 := Cells.new ((w0.alloc (.cells #[.slice opv Ps.length cpv, .slice oav As.length cav, .slice oev Es.length cev, .int .i64 r] 24)).alloc (.cells #[.int .i64 t.x, .int .i64 t.y, .int .i64 t.z, .int .i64 q.w, .int .i64 q.x, .int .i64 q.y, .int .i64 q.z] 30)) [.slice none 0 0, .slice none 0 0, .slice none 0 0, .int .i64 0] 24; rw [World.size_alloc, World.size_alloc] at h9; exact h9
  go_enter Tryz.func6, Tryz.ntmps6
  go_wp2_with (fail)
  rw [← hV0]
  clear hV0
  refine Calls.mono (H1.out _ hB0.out) ?_
  rintro e V1 ⟨rfl, hb⟩
  have hB0 : Hid _ := b_step hB0.out hb
  have HCB : Hid _ := Cells.step HCB.out hb
  have HPB : Hid _ := Cells.step HPB.out hb
  have HRB : Hid _ := Cells.step HRB.out hb
  have hV1 : w0.heap.size + 1 + 1 < V1.heap.size := Cells.lt HRB.out
  clear hb H1
  cases pl with
  | false =>
    have e9 : Hid (OK = false) := HOK.out
    obtain ⟨k0, k0f⟩ := HRB.out 0 _ rfl
    obtain ⟨k1, k1f⟩ := HRB.out 1 _ rfl
    obtain ⟨k2, k2f⟩ := HRB.out 2 _ rfl
    obtain ⟨k3, k3f⟩ := HRB.out 3 _ rfl
    go_wp2_with (fail)
    refine bodyPost_ret (v := .tuple #[.agg #[.slice none 0 0, .slice none 0 0, .slice none 0 0, .int .i64 0], .bool false]) (by simp [results, Tryz.results6, go_sem, k0, k1, k2, k3]) rfl ?_
    exact ⟨_, _, _, fun _ => ⟨rfl, three_nil (set4_below hB0.out (by omega) _ _ _ _)⟩, fun e => by rw [e9.out] at e; cases e⟩
  | true =>
    obtain ⟨k0, k0f⟩ := HPB.out 0 _ rfl
    obtain ⟨k1, k1f⟩ := HPB.out 1 _ rfl
    obtain ⟨k2, k2f⟩ := HPB.out 2 _ rfl
    obtain ⟨k3, k3f⟩ := HPB.out 3 _ rfl
    obtain ⟨k4, k4f⟩ := HPB.out 4 _ rfl
    obtain ⟨k5, k5f⟩ := HPB.out 5 _ rfl
    obtain ⟨k6, k6f⟩ := HPB.out 6 _ rfl
    go_wp2_with (fail)
    refine Calls.mono (H2.out _) ?_
    rintro e V ⟨fb, rfl, hfb, HF, hb⟩
    have HF : Hid _ := HF
    have hB0 : Hid _ := b_step hB0.out hb
    have HCB : Hid _ := Cells.step HCB.out hb
    have HRB : Hid _ := Cells.step HRB.out hb
    clear hb H2 HPB k0 k1 k2 k3 k4 k5 k6 k0f k1f k2f k3f k4f k5f k6f
    go_upto_region 4 with fail
    have hwV : w0.heap.size ≤ V.heap.size := hB0.out.size
    obtain ⟨cb, hcb⟩ : ∃ b, b = w0.heap.size := ⟨_, rfl⟩
    obtain ⟨rb, hrb⟩ : ∃ b, b = w0.heap.size + 1 + 1 := ⟨_, rfl⟩
    have hfV : fb < V.heap.size := Cells.lt HF.out
    rw [← hrb] at HRB
    rw [← hcb] at HCB
    rw [← hrb, ← hcb]
    have hcf : cb ≠ fb := by omega
    have hfr : fb ≠ rb := by omega
    have hfw : w0.heap.size ≤ fb := by omega
    have hrw : w0.heap.size ≤ rb := by omega
    have hcV : cb < V.heap.size := Cells.lt HCB.out
    have hrV : rb < V.heap.size := Cells.lt HRB.out
    have hnP : ∀ q' n c, Value.slice opv Ps.length cpv = .slice (some q') n c → Ps ≠ [] → q'.block ≠ fb := fun q' n c e h0 => by
      have h9 := HLP0.out
      rw [e] at h9
      have := Lies.lt h9 h0
      omega
    have hnA : ∀ q' n c, Value.slice oav As.length cav = .slice (some q') n c → As ≠ [] → q'.block ≠ fb := fun q' n c e h0 => by
      have h9 := HLA0.out
      rw [e] at h9
      have := Lies.lt h9 h0
      omega
    have hnE : ∀ q' n c, Value.slice oev Es.length cev = .slice (some q') n c → Es ≠ [] → q'.block ≠ fb := fun q' n c e h0 => by
      have h9 := HLE0.out
      rw [e] at h9
      have := Lies.lt h9 h0
      omega
    have HLP : Hid _ := HLP0.out.below hB0.out
    have HLA : Hid _ := HLA0.out.below hB0.out
    have HLE : Hid _ := HLE0.out.below hB0.out
    have HNR : OK = (!(f || b1 || b2 || b3) && Px2.all fun p => p.win 8388608) := HOK.out
    clear hcb hrb HLP0 HLA0 HLE0 HOK hV1 hfb
    refine RV.region_by (fun j v w => match j with | 0 => v = .pointer (some ⟨cb, 0, none⟩) | 1 => v = .slice opv Ps.length cpv | 2 => v = .pointer (some ⟨fb, 0, none⟩) | 3 => v = .func (.func 22) #[.pointer (some ⟨fb, 0, none⟩)] #[] | 4 => True | 5 => True | 6 => v = .pointer (some ⟨fb, 0, none⟩) | 7 => v = .pointer (some ⟨cb, 1, none⟩) | 8 => v = .slice oav As.length cav | 9 => True | 10 => v = .pointer (some ⟨fb, 0, none⟩) | 11 => v = .pointer (some ⟨cb, 2, none⟩) | 12 => v = .slice oev Es.length cev | 13 => True | 14 => v = .pointer (some ⟨cb, 3, none⟩) | 15 => v = .int .i64 r | 16 => True | 17 => True | 18 => True | _ => True) (fun γ L w => PG V cb fb (.slice opv Ps.length cpv) (.slice oav As.length cav) (.slice oev Es.length cev) r f b1 b2 b3 m t Px2 Ax2 Ex2 (γ 4) (γ 5) (γ 9) (γ 13) (γ 16) (γ 17) (L 4) (L 5) (L 9) (L 13) (L 16) (L 17) (L 18) w) (by kernel_rfl) (by kernel_rfl) (by kernel_rfl) (by kernel_rfl) ?_ ?_ ?_
    · have b9 : Below V.heap.size V V.drew := (Below.refl _ _).drew; exact PG.step (w := V) ⟨below_grown (Below.refl _ _) _, HCB.out, by have h9 : Cells V fb (frL f m t) := HF.out; simpa using h9, (fun e => by cases e), (fun e => by cases e), (fun e => by cases e), (fun e => by cases e), (fun e => by cases e), (fun e => by cases e), (fun e => by cases e), (fun e => by cases e), (fun e => by cases e)⟩ b9 hfV hcf
    · generalize hD : dstOf _ = D
      generalize hWA : waitsFor _ = WA
      generalize hZ : Act.mk _ _ = Z
      obtain ⟨R, hR⟩ : ∃ R : Nat → Value → World → Prop, R = (fun j v w => match j with | 0 => v = .pointer (some ⟨cb, 0, none⟩) | 1 => v = .slice opv Ps.length cpv | 2 => v = .pointer (some ⟨fb, 0, none⟩) | 3 => v = .func (.func 22) #[.pointer (some ⟨fb, 0, none⟩)] #[] | 4 => True | 5 => True | 6 => v = .pointer (some ⟨fb, 0, none⟩) | 7 => v = .pointer (some ⟨cb, 1, none⟩) | 8 => v = .slice oav As.length cav | 9 => True | 10 => v = .pointer (some ⟨fb, 0, none⟩) | 11 => v = .pointer (some ⟨cb, 2, none⟩) | 12 => v = .slice oev Es.length cev | 13 => True | 14 => v = .pointer (some ⟨cb, 3, none⟩) | 15 => v = .int .i64 r | 16 => True | 17 => True | 18 => True | _ => True) := ⟨_, rfl⟩
      rw [← hR]
      have d0 : D 0 = some 14 := by rw [← hD]; rfl
      have d1 : D 1 = some 15 := by rw [← hD]; rfl
      have d2 : D 2 = some 16 := by rw [← hD]; rfl
      have d3 : D 3 = some 17 := by rw [← hD]; rfl
      have d4 : D 4 = some 18 := by rw [← hD]; rfl
      have d5 : D 5 = some 19 := by rw [← hD]; rfl
      have d6 : D 6 = some 20 := by rw [← hD]; rfl
      have d7 : D 7 = some 21 := by rw [← hD]; rfl
      have d8 : D 8 = some 22 := by rw [← hD]; rfl
      have d9 : D 9 = some 23 := by rw [← hD]; rfl
      have d10 : D 10 = some 24 := by rw [← hD]; rfl
      have d11 : D 11 = some 25 := by rw [← hD]; rfl
      have d12 : D 12 = some 26 := by rw [← hD]; rfl
      have d13 : D 13 = some 27 := by rw [← hD]; rfl
      have d14 : D 14 = some 28 := by rw [← hD]; rfl
      have d15 : D 15 = some 29 := by rw [← hD]; rfl
      have d16 : D 16 = some 30 := by rw [← hD]; rfl
      have d17 : D 17 = some 7 := by rw [← hD]; rfl
      have r0 : ∀ v w, R 0 v w = (v = .pointer (some ⟨cb, 0, none⟩)) := fun v w => by rw [hR]; rfl
      have r1 : ∀ v w, R 1 v w = (v = .slice opv Ps.length cpv) := fun v w => by rw [hR]; rfl
      have r2 : ∀ v w, R 2 v w = (v = .pointer (some ⟨fb, 0, none⟩)) := fun v w => by rw [hR]; rfl
      have r3 : ∀ v w, R 3 v w = (v = .func (.func 22) #[.pointer (some ⟨fb, 0, none⟩)] #[]) := fun v w => by rw [hR]; rfl
      have r4 : ∀ v w, R 4 v w = (True) := fun v w => by rw [hR]; rfl
      have r5 : ∀ v w, R 5 v w = (True) := fun v w => by rw [hR]; rfl
      have r6 : ∀ v w, R 6 v w = (v = .pointer (some ⟨fb, 0, none⟩)) := fun v w => by rw [hR]; rfl
      have r7 : ∀ v w, R 7 v w = (v = .pointer (some ⟨cb, 1, none⟩)) := fun v w => by rw [hR]; rfl
      have r8 : ∀ v w, R 8 v w = (v = .slice oav As.length cav) := fun v w => by rw [hR]; rfl
      have r9 : ∀ v w, R 9 v w = (True) := fun v w => by rw [hR]; rfl
      have r10 : ∀ v w, R 10 v w = (v = .pointer (some ⟨fb, 0, none⟩)) := fun v w => by rw [hR]; rfl
      have r11 : ∀ v w, R 11 v w = (v = .pointer (some ⟨cb, 2, none⟩)) := fun v w => by rw [hR]; rfl
      have r12 : ∀ v w, R 12 v w = (v = .slice oev Es.length cev) := fun v w => by rw [hR]; rfl
      have r13 : ∀ v w, R 13 v w = (True) := fun v w => by rw [hR]; rfl
      have r14 : ∀ v w, R 14 v w = (v = .pointer (some ⟨cb, 3, none⟩)) := fun v w => by rw [hR]; rfl
      have r15 : ∀ v w, R 15 v w = (v = .int .i64 r) := fun v w => by rw [hR]; rfl
      have r16 : ∀ v w, R 16 v w = (True) := fun v w => by rw [hR]; rfl
      have r17 : ∀ v w, R 17 v w = (True) := fun v w => by rw [hR]; rfl
      have r18 : ∀ v w, R 18 v w = (True) := fun v w => by rw [hR]; rfl
      have E2 : ∀ (γ : Nat → Value) (L : Nat → Bool) (a : Act) (w : World), RV.Held D WA R (fun γ L w => PG V cb fb (.slice opv Ps.length cpv) (.slice oav As.length cav) (.slice oev Es.length cev) r f b1 b2 b3 m t Px2 Ax2 Ex2 (γ 4) (γ 5) (γ 9) (γ 13) (γ 16) (γ 17) (L 4) (L 5) (L 9) (L 13) (L 16) (L 17) (L 18) w) Z γ L a w → a.tmps[2]? = some (.pointer (some ⟨cb, 0, none⟩)) := fun γ L a w hH => (hH.rest 2 (by rw [← hD]; exact RV.dst_free (by kernel_rfl))).trans (by rw [← hZ]; rfl)
      have E6 : ∀ (γ : Nat → Value) (L : Nat → Bool) (a : Act) (w : World), RV.Held D WA R (fun γ L w => PG V cb fb (.slice opv Ps.length cpv) (.slice oav As.length cav) (.slice oev Es.length cev) r f b1 b2 b3 m t Px2 Ax2 Ex2 (γ 4) (γ 5) (γ 9) (γ 13) (γ 16) (γ 17) (L 4) (L 5) (L 9) (L 13) (L 16) (L 17) (L 18) w) Z γ L a w → a.tmps[6]? = some (.pointer (some ⟨fb, 0, none⟩)) := fun γ L a w hH => (hH.rest 6 (by rw [← hD]; exact RV.dst_free (by kernel_rfl))).trans (by rw [← hZ]; rfl)
      have K : ∀ j v w w', R j v w → R j v w' := by rw [hR]; intro j v w w' h; exact h
      have A_16_5 : WA 16 5 := by rw [← hWA]; exact ⟨_, rfl, ⟨5, .data⟩, by simp, rfl, rfl⟩
      have A_16_9 : WA 16 9 := by rw [← hWA]; exact ⟨_, rfl, ⟨9, .data⟩, by simp, rfl, rfl⟩
      have A_16_13 : WA 16 13 := by rw [← hWA]; exact ⟨_, rfl, ⟨13, .data⟩, by simp, rfl, rfl⟩
      have A_18_16 : WA 18 16 := by rw [← hWA]; exact ⟨_, rfl, ⟨16, .data⟩, by simp, rfl, rfl⟩
      have A_18_17 : WA 18 17 := by rw [← hWA]; exact ⟨_, rfl, ⟨17, .data⟩, by simp, rfl, rfl⟩
      clear hD hWA hZ hR
      refine RV.AllDo.cons 0 (RV.does_pure (fun γ v L w hl h => by rw [RV.upd_ne γ (i := 0) (j := 4) _ (by decide), RV.upd_ne γ (i := 0) (j := 5) _ (by decide), RV.upd_ne γ (i := 0) (j := 9) _ (by decide), RV.upd_ne γ (i := 0) (j := 13) _ (by decide), RV.upd_ne γ (i := 0) (j := 16) _ (by decide), RV.upd_ne γ (i := 0) (j := 17) _ (by decide), RV.more_ne (L := L) (i := 0) (j := 4) (by decide), RV.more_ne (L := L) (i := 0) (j := 5) (by decide), RV.more_ne (L := L) (i := 0) (j := 9) (by decide), RV.more_ne (L := L) (i := 0) (j := 13) (by decide), RV.more_ne (L := L) (i := 0) (j := 16) (by decide), RV.more_ne (L := L) (i := 0) (j := 17) (by decide), RV.more_ne (L := L) (i := 0) (j := 18) (by decide)]; exact h) (fun γ L a w hH hl hA => by have e0 := E2 γ L a w hH; exact ⟨.pointer (some ⟨cb, 0, none⟩), by simp [execOp, go_sem, e0], (r0 _ _).mpr rfl⟩)) ?_
      refine RV.AllDo.cons 1 (RV.does_pure (fun γ v L w hl h => by rw [RV.upd_ne γ (i := 1) (j := 4) _ (by decide), RV.upd_ne γ (i := 1) (j := 5) _ (by decide), RV.upd_ne γ (i := 1) (j := 9) _ (by decide), RV.upd_ne γ (i := 1) (j := 13) _ (by decide), RV.upd_ne γ (i := 1) (j := 16) _ (by decide), RV.upd_ne γ (i := 1) (j := 17) _ (by decide), RV.more_ne (L := L) (i := 1) (j := 4) (by decide), RV.more_ne (L := L) (i := 1) (j := 5) (by decide), RV.more_ne (L := L) (i := 1) (j := 9) (by decide), RV.more_ne (L := L) (i := 1) (j := 13) (by decide), RV.more_ne (L := L) (i := 1) (j := 16) (by decide), RV.more_ne (L := L) (i := 1) (j := 17) (by decide), RV.more_ne (L := L) (i := 1) (j := 18) (by decide)]; exact h) (fun γ L a w hH hl hA => by have l0 : L 0 = true := hA ⟨0, .data⟩ (by simp) rfl; have e0 := hH.slot 0 14 d0 l0; have g0 := hH.holds 0 l0; rw [r0] at g0; rw [g0] at e0; have wz9 := (hH.glob.cr 0 _ rfl).1; exact ⟨.slice opv Ps.length cpv, by simp [execOp, go_sem, e0, wz9], (r1 _ _).mpr rfl⟩)) ?_
      refine RV.AllDo.cons 2 (RV.does_pure (fun γ v L w hl h => by rw [RV.upd_ne γ (i := 2) (j := 4) _ (by decide), RV.upd_ne γ (i := 2) (j := 5) _ (by decide), RV.upd_ne γ (i := 2) (j := 9) _ (by decide), RV.upd_ne γ (i := 2) (j := 13) _ (by decide), RV.upd_ne γ (i := 2) (j := 16) _ (by decide), RV.upd_ne γ (i := 2) (j := 17) _ (by decide), RV.more_ne (L := L) (i := 2) (j := 4) (by decide), RV.more_ne (L := L) (i := 2) (j := 5) (by decide), RV.more_ne (L := L) (i := 2) (j := 9) (by decide), RV.more_ne (L := L) (i := 2) (j := 13) (by decide), RV.more_ne (L := L) (i := 2) (j := 16) (by decide), RV.more_ne (L := L) (i := 2) (j := 17) (by decide), RV.more_ne (L := L) (i := 2) (j := 18) (by decide)]; exact h) (fun γ L a w hH hl hA => by have e0 := E6 γ L a w hH; exact ⟨.pointer (some ⟨fb, 0, none⟩), by simp [execOp, go_sem, e0], (r2 _ _).mpr rfl⟩)) ?_
      refine RV.AllDo.cons 3 (RV.does_step (fun γ L a w hH hl hA => by have l0 : L 2 = true := hA ⟨2, .data⟩ (by simp) rfl; have e0 := hH.slot 2 16 d2 l0; have g0 := hH.holds 2 l0; rw [r2] at g0; rw [g0] at e0; exact ⟨.func (.func 22) #[.pointer (some ⟨fb, 0, none⟩)] #[], w, by simp [execOp, go_sem, e0], (r3 _ _).mpr rfl, fun j v _ h => K j v _ _ h, by rw [RV.upd_ne γ (i := 3) (j := 4) _ (by decide), RV.upd_ne γ (i := 3) (j := 5) _ (by decide), RV.upd_ne γ (i := 3) (j := 9) _ (by decide), RV.upd_ne γ (i := 3) (j := 13) _ (by decide), RV.upd_ne γ (i := 3) (j := 16) _ (by decide), RV.upd_ne γ (i := 3) (j := 17) _ (by decide), RV.more_ne (L := L) (i := 3) (j := 4) (by decide), RV.more_ne (L := L) (i := 3) (j := 5) (by decide), RV.more_ne (L := L) (i := 3) (j := 9) (by decide), RV.more_ne (L := L) (i := 3) (j := 13) (by decide), RV.more_ne (L := L) (i := 3) (j := 16) (by decide), RV.more_ne (L := L) (i := 3) (j := 17) (by decide), RV.more_ne (L := L) (i := 3) (j := 18) (by decide)]; exact hH.glob⟩)) ?_
      refine RV.AllDo.cons 4 (RV.does_call (fun γ L a w hH hl hA => by have l0 : L 1 = true := hA ⟨1, .data⟩ (by simp) rfl; have e0 := hH.slot 1 15 d1 l0; have g0 := hH.holds 1 l0; rw [r1] at g0; rw [g0] at e0; have l1 : L 3 = true := hA ⟨3, .data⟩ (by simp) rfl; have e1 := hH.slot 3 17 d3 l1; have g1 := hH.holds 3 l1; rw [r3] at g1; rw [g1] at e1; refine ⟨21, #[.slice opv Ps.length cpv, .func (.func 22) #[.pointer (some ⟨fb, 0, none⟩)] #[]], by simp [go_sem, e0, e1], Calls.mono (each_in_pt _ _ _ _ _ _ w) ?_⟩; rintro e w2 ⟨rfl, rfl⟩; have b9 := b_step (n_after w (.cells #[.slice opv Ps.length cpv] 22)) (n_after _ (.cells #[.func (.func 22) #[.pointer (some ⟨fb, 0, none⟩)] #[]] 59)); refine ⟨_, rfl, (r4 _ _).mpr trivial, fun j v _ h => K j v _ _ h, ?_⟩; rw [RV.upd_ne γ (i := 4) (j := 5) _ (by decide), RV.upd_ne γ (i := 4) (j := 9) _ (by decide), RV.upd_ne γ (i := 4) (j := 13) _ (by decide), RV.upd_ne γ (i := 4) (j := 16) _ (by decide), RV.upd_ne γ (i := 4) (j := 17) _ (by decide), RV.more_ne (L := L) (i := 4) (j := 5) (by decide), RV.more_ne (L := L) (i := 4) (j := 9) (by decide), RV.more_ne (L := L) (i := 4) (j := 13) (by decide), RV.more_ne (L := L) (i := 4) (j := 16) (by decide), RV.more_ne (L := L) (i := 4) (j := 17) (by decide), RV.more_ne (L := L) (i := 4) (j := 18) (by decide), RV.upd_self, RV.more_self]; exact hH.glob.each b9 hfV hcf hH.glob.gr.size (by simp [go_sem]) (by simp [go_sem]))) ?_
      refine RV.AllDo.cons 5 (RV.does_call (fun γ L a w hH hl hA => by have l0 : L 4 = true := hA ⟨4, .data⟩ (by simp) rfl; have e0 := hH.slot 4 18 d4 l0; have g0 := hH.holds 4 l0; rw [r4] at g0; have h16 : L 16 = false := RV.not_yet hH A_16_5 hl; have h18 : L 18 = false := RV.not_yet hH A_18_16 h16; have hG := hH.glob; rw [hl] at hG; obtain ⟨b, hv0, hbV, cp0, cf0⟩ := hG.ea l0 rfl; rw [hv0] at e0; refine ⟨20, #[.func (.func 53) #[] #[.pointer (some ⟨b, 0, none⟩), .pointer (some ⟨b + 1, 0, none⟩)]], by simp [go_sem, e0], Calls.mono (gather_points fb b _ m t Ps opv cpv w hG.fr (Lies.grown HLP.out hG.gr hnP) hnP cp0 cf0 (by omega) hNPs) ?_⟩; rintro e w2 ⟨u, rfl, o9, g9, f9⟩; rw [HDPs.out] at o9; rw [HBPs.out] at f9; refine ⟨_, rfl, (r5 _ _).mpr trivial, fun j v _ h => K j v _ _ h, ?_⟩; rw [RV.upd_ne γ (i := 5) (j := 4) _ (by decide), RV.upd_ne γ (i := 5) (j := 9) _ (by decide), RV.upd_ne γ (i := 5) (j := 13) _ (by decide), RV.upd_ne γ (i := 5) (j := 16) _ (by decide), RV.upd_ne γ (i := 5) (j := 17) _ (by decide), RV.more_ne (L := L) (i := 5) (j := 4) (by decide), RV.more_ne (L := L) (i := 5) (j := 9) (by decide), RV.more_ne (L := L) (i := 5) (j := 13) (by decide), RV.more_ne (L := L) (i := 5) (j := 16) (by decide), RV.more_ne (L := L) (i := 5) (j := 17) (by decide), RV.more_ne (L := L) (i := 5) (j := 18) (by decide), RV.upd_self, RV.more_self]; exact hG.get5 g9 hfV hcf o9 f9 h16 h18)) ?_
      refine RV.AllDo.cons 6 (RV.does_pure (fun γ v L w hl h => by rw [RV.upd_ne γ (i := 6) (j := 4) _ (by decide), RV.upd_ne γ (i := 6) (j := 5) _ (by decide), RV.upd_ne γ (i := 6) (j := 9) _ (by decide), RV.upd_ne γ (i := 6) (j := 13) _ (by decide), RV.upd_ne γ (i := 6) (j := 16) _ (by decide), RV.upd_ne γ (i := 6) (j := 17) _ (by decide), RV.more_ne (L := L) (i := 6) (j := 4) (by decide), RV.more_ne (L := L) (i := 6) (j := 5) (by decide), RV.more_ne (L := L) (i := 6) (j := 9) (by decide), RV.more_ne (L := L) (i := 6) (j := 13) (by decide), RV.more_ne (L := L) (i := 6) (j := 16) (by decide), RV.more_ne (L := L) (i := 6) (j := 17) (by decide), RV.more_ne (L := L) (i := 6) (j := 18) (by decide)]; exact h) (fun γ L a w hH hl hA => by have e0 := E6 γ L a w hH; exact ⟨.pointer (some ⟨fb, 0, none⟩), by simp [execOp, go_sem, e0], (r6 _ _).mpr rfl⟩)) ?_
      refine RV.AllDo.cons 7 (RV.does_pure (fun γ v L w hl h => by rw [RV.upd_ne γ (i := 7) (j := 4) _ (by decide), RV.upd_ne γ (i := 7) (j := 5) _ (by decide), RV.upd_ne γ (i := 7) (j := 9) _ (by decide), RV.upd_ne γ (i := 7) (j := 13) _ (by decide), RV.upd_ne γ (i := 7) (j := 16) _ (by decide), RV.upd_ne γ (i := 7) (j := 17) _ (by decide), RV.more_ne (L := L) (i := 7) (j := 4) (by decide), RV.more_ne (L := L) (i := 7) (j := 5) (by decide), RV.more_ne (L := L) (i := 7) (j := 9) (by decide), RV.more_ne (L := L) (i := 7) (j := 13) (by decide), RV.more_ne (L := L) (i := 7) (j := 16) (by decide), RV.more_ne (L := L) (i := 7) (j := 17) (by decide), RV.more_ne (L := L) (i := 7) (j := 18) (by decide)]; exact h) (fun γ L a w hH hl hA => by have e0 := E2 γ L a w hH; exact ⟨.pointer (some ⟨cb, 1, none⟩), by simp [execOp, go_sem, e0], (r7 _ _).mpr rfl⟩)) ?_
      refine RV.AllDo.cons 8 (RV.does_pure (fun γ v L w hl h => by rw [RV.upd_ne γ (i := 8) (j := 4) _ (by decide), RV.upd_ne γ (i := 8) (j := 5) _ (by decide), RV.upd_ne γ (i := 8) (j := 9) _ (by decide), RV.upd_ne γ (i := 8) (j := 13) _ (by decide), RV.upd_ne γ (i := 8) (j := 16) _ (by decide), RV.upd_ne γ (i := 8) (j := 17) _ (by decide), RV.more_ne (L := L) (i := 8) (j := 4) (by decide), RV.more_ne (L := L) (i := 8) (j := 5) (by decide), RV.more_ne (L := L) (i := 8) (j := 9) (by decide), RV.more_ne (L := L) (i := 8) (j := 13) (by decide), RV.more_ne (L := L) (i := 8) (j := 16) (by decide), RV.more_ne (L := L) (i := 8) (j := 17) (by decide), RV.more_ne (L := L) (i := 8) (j := 18) (by decide)]; exact h) (fun γ L a w hH hl hA => by have l0 : L 7 = true := hA ⟨7, .data⟩ (by simp) rfl; have e0 := hH.slot 7 21 d7 l0; have g0 := hH.holds 7 l0; rw [r7] at g0; rw [g0] at e0; have wz9 := (hH.glob.cr 1 _ rfl).1; exact ⟨.slice oav As.length cav, by simp [execOp, go_sem, e0, wz9], (r8 _ _).mpr rfl⟩)) ?_
      refine RV.AllDo.cons 9 (RV.does_call (fun γ L a w hH hl hA => by have l0 : L 6 = true := hA ⟨6, .data⟩ (by simp) rfl; have e0 := hH.slot 6 20 d6 l0; have g0 := hH.holds 6 l0; rw [r6] at g0; rw [g0] at e0; have l1 : L 8 = true := hA ⟨8, .data⟩ (by simp) rfl; have e1 := hH.slot 8 22 d8 l1; have g1 := hH.holds 8 l1; rw [r8] at g1; rw [g1] at e1; have h16 : L 16 = false := RV.not_yet hH A_16_9 hl; have h18 : L 18 = false := RV.not_yet hH A_18_16 h16; have hG := hH.glob; rw [hl] at hG; refine ⟨23, #[.pointer (some ⟨fb, 0, none⟩), .slice oav As.length cav], by simp [go_sem, e0, e1], Calls.mono (directions_any fb _ m t As (.slice oav As.length cav) w hG.fr (Lies.grown HLA.out hG.gr hnA) hnA hNAs) ?_⟩; rintro e w2 ⟨u, rfl, o9, g9, f9⟩; rw [HDAs.out] at o9; rw [HBAs.out] at f9; refine ⟨_, rfl, (r9 _ _).mpr trivial, fun j v _ h => K j v _ _ h, ?_⟩; rw [RV.upd_ne γ (i := 9) (j := 4) _ (by decide), RV.upd_ne γ (i := 9) (j := 5) _ (by decide), RV.upd_ne γ (i := 9) (j := 13) _ (by decide), RV.upd_ne γ (i := 9) (j := 16) _ (by decide), RV.upd_ne γ (i := 9) (j := 17) _ (by decide), RV.more_ne (L := L) (i := 9) (j := 4) (by decide), RV.more_ne (L := L) (i := 9) (j := 5) (by decide), RV.more_ne (L := L) (i := 9) (j := 13) (by decide), RV.more_ne (L := L) (i := 9) (j := 16) (by decide), RV.more_ne (L := L) (i := 9) (j := 17) (by decide), RV.more_ne (L := L) (i := 9) (j := 18) (by decide), RV.upd_self, RV.more_self]; exact hG.get9 g9 hfV hcf o9 f9 h16 h18)) ?_
      refine RV.AllDo.cons 10 (RV.does_pure (fun γ v L w hl h => by rw [RV.upd_ne γ (i := 10) (j := 4) _ (by decide), RV.upd_ne γ (i := 10) (j := 5) _ (by decide), RV.upd_ne γ (i := 10) (j := 9) _ (by decide), RV.upd_ne γ (i := 10) (j := 13) _ (by decide), RV.upd_ne γ (i := 10) (j := 16) _ (by decide), RV.upd_ne γ (i := 10) (j := 17) _ (by decide), RV.more_ne (L := L) (i := 10) (j := 4) (by decide), RV.more_ne (L := L) (i := 10) (j := 5) (by decide), RV.more_ne (L := L) (i := 10) (j := 9) (by decide), RV.more_ne (L := L) (i := 10) (j := 13) (by decide), RV.more_ne (L := L) (i := 10) (j := 16) (by decide), RV.more_ne (L := L) (i := 10) (j := 17) (by decide), RV.more_ne (L := L) (i := 10) (j := 18) (by decide)]; exact h) (fun γ L a w hH hl hA => by have e0 := E6 γ L a w hH; exact ⟨.pointer (some ⟨fb, 0, none⟩), by simp [execOp, go_sem, e0], (r10 _ _).mpr rfl⟩)) ?_
      refine RV.AllDo.cons 11 (RV.does_pure (fun γ v L w hl h => by rw [RV.upd_ne γ (i := 11) (j := 4) _ (by decide), RV.upd_ne γ (i := 11) (j := 5) _ (by decide), RV.upd_ne γ (i := 11) (j := 9) _ (by decide), RV.upd_ne γ (i := 11) (j := 13) _ (by decide), RV.upd_ne γ (i := 11) (j := 16) _ (by decide), RV.upd_ne γ (i := 11) (j := 17) _ (by decide), RV.more_ne (L := L) (i := 11) (j := 4) (by decide), RV.more_ne (L := L) (i := 11) (j := 5) (by decide), RV.more_ne (L := L) (i := 11) (j := 9) (by decide), RV.more_ne (L := L) (i := 11) (j := 13) (by decide), RV.more_ne (L := L) (i := 11) (j := 16) (by decide), RV.more_ne (L := L) (i := 11) (j := 17) (by decide), RV.more_ne (L := L) (i := 11) (j := 18) (by decide)]; exact h) (fun γ L a w hH hl hA => by have e0 := E2 γ L a w hH; exact ⟨.pointer (some ⟨cb, 2, none⟩), by simp [execOp, go_sem, e0], (r11 _ _).mpr rfl⟩)) ?_
      refine RV.AllDo.cons 12 (RV.does_pure (fun γ v L w hl h => by rw [RV.upd_ne γ (i := 12) (j := 4) _ (by decide), RV.upd_ne γ (i := 12) (j := 5) _ (by decide), RV.upd_ne γ (i := 12) (j := 9) _ (by decide), RV.upd_ne γ (i := 12) (j := 13) _ (by decide), RV.upd_ne γ (i := 12) (j := 16) _ (by decide), RV.upd_ne γ (i := 12) (j := 17) _ (by decide), RV.more_ne (L := L) (i := 12) (j := 4) (by decide), RV.more_ne (L := L) (i := 12) (j := 5) (by decide), RV.more_ne (L := L) (i := 12) (j := 9) (by decide), RV.more_ne (L := L) (i := 12) (j := 13) (by decide), RV.more_ne (L := L) (i := 12) (j := 16) (by decide), RV.more_ne (L := L) (i := 12) (j := 17) (by decide), RV.more_ne (L := L) (i := 12) (j := 18) (by decide)]; exact h) (fun γ L a w hH hl hA => by have l0 : L 11 = true := hA ⟨11, .data⟩ (by simp) rfl; have e0 := hH.slot 11 25 d11 l0; have g0 := hH.holds 11 l0; rw [r11] at g0; rw [g0] at e0; have wz9 := (hH.glob.cr 2 _ rfl).1; exact ⟨.slice oev Es.length cev, by simp [execOp, go_sem, e0, wz9], (r12 _ _).mpr rfl⟩)) ?_
      refine RV.AllDo.cons 13 (RV.does_call (fun γ L a w hH hl hA => by have l0 : L 10 = true := hA ⟨10, .data⟩ (by simp) rfl; have e0 := hH.slot 10 24 d10 l0; have g0 := hH.holds 10 l0; rw [r10] at g0; rw [g0] at e0; have l1 : L 12 = true := hA ⟨12, .data⟩ (by simp) rfl; have e1 := hH.slot 12 26 d12 l1; have g1 := hH.holds 12 l1; rw [r12] at g1; rw [g1] at e1; have h16 : L 16 = false := RV.not_yet hH A_16_13 hl; have h18 : L 18 = false := RV.not_yet hH A_18_16 h16; have hG := hH.glob; rw [hl] at hG; refine ⟨23, #[.pointer (some ⟨fb, 0, none⟩), .slice oev Es.length cev], by simp [go_sem, e0, e1], Calls.mono (directions_any fb _ m t Es (.slice oev Es.length cev) w hG.fr (Lies.grown HLE.out hG.gr hnE) hnE hNEs) ?_⟩; rintro e w2 ⟨u, rfl, o9, g9, f9⟩; rw [HDEs.out] at o9; rw [HBEs.out] at f9; refine ⟨_, rfl, (r13 _ _).mpr trivial, fun j v _ h => K j v _ _ h, ?_⟩; rw [RV.upd_ne γ (i := 13) (j := 4) _ (by decide), RV.upd_ne γ (i := 13) (j := 5) _ (by decide), RV.upd_ne γ (i := 13) (j := 9) _ (by decide), RV.upd_ne γ (i := 13) (j := 16) _ (by decide), RV.upd_ne γ (i := 13) (j := 17) _ (by decide), RV.more_ne (L := L) (i := 13) (j := 4) (by decide), RV.more_ne (L := L) (i := 13) (j := 5) (by decide), RV.more_ne (L := L) (i := 13) (j := 9) (by decide), RV.more_ne (L := L) (i := 13) (j := 16) (by decide), RV.more_ne (L := L) (i := 13) (j := 17) (by decide), RV.more_ne (L := L) (i := 13) (j := 18) (by decide), RV.upd_self, RV.more_self]; exact hG.get13 g9 hfV hcf o9 f9 h16 h18)) ?_
      refine RV.AllDo.cons 14 (RV.does_pure (fun γ v L w hl h => by rw [RV.upd_ne γ (i := 14) (j := 4) _ (by decide), RV.upd_ne γ (i := 14) (j := 5) _ (by decide), RV.upd_ne γ (i := 14) (j := 9) _ (by decide), RV.upd_ne γ (i := 14) (j := 13) _ (by decide), RV.upd_ne γ (i := 14) (j := 16) _ (by decide), RV.upd_ne γ (i := 14) (j := 17) _ (by decide), RV.more_ne (L := L) (i := 14) (j := 4) (by decide), RV.more_ne (L := L) (i := 14) (j := 5) (by decide), RV.more_ne (L := L) (i := 14) (j := 9) (by decide), RV.more_ne (L := L) (i := 14) (j := 13) (by decide), RV.more_ne (L := L) (i := 14) (j := 16) (by decide), RV.more_ne (L := L) (i := 14) (j := 17) (by decide), RV.more_ne (L := L) (i := 14) (j := 18) (by decide)]; exact h) (fun γ L a w hH hl hA => by have e0 := E2 γ L a w hH; exact ⟨.pointer (some ⟨cb, 3, none⟩), by simp [execOp, go_sem, e0], (r14 _ _).mpr rfl⟩)) ?_
      refine RV.AllDo.cons 15 (RV.does_pure (fun γ v L w hl h => by rw [RV.upd_ne γ (i := 15) (j := 4) _ (by decide), RV.upd_ne γ (i := 15) (j := 5) _ (by decide), RV.upd_ne γ (i := 15) (j := 9) _ (by decide), RV.upd_ne γ (i := 15) (j := 13) _ (by decide), RV.upd_ne γ (i := 15) (j := 16) _ (by decide), RV.upd_ne γ (i := 15) (j := 17) _ (by decide), RV.more_ne (L := L) (i := 15) (j := 4) (by decide), RV.more_ne (L := L) (i := 15) (j := 5) (by decide), RV.more_ne (L := L) (i := 15) (j := 9) (by decide), RV.more_ne (L := L) (i := 15) (j := 13) (by decide), RV.more_ne (L := L) (i := 15) (j := 16) (by decide), RV.more_ne (L := L) (i := 15) (j := 17) (by decide), RV.more_ne (L := L) (i := 15) (j := 18) (by decide)]; exact h) (fun γ L a w hH hl hA => by have l0 : L 14 = true := hA ⟨14, .data⟩ (by simp) rfl; have e0 := hH.slot 14 28 d14 l0; have g0 := hH.holds 14 l0; rw [r14] at g0; rw [g0] at e0; have wz9 := (hH.glob.cr 3 _ rfl).1; exact ⟨.int .i64 r, by simp [execOp, go_sem, e0, wz9], (r15 _ _).mpr rfl⟩)) ?_
      refine RV.AllDo.cons 16 (RV.does_step (fun γ L a w hH hl hA => by have l0 : L 5 = true := hA ⟨5, .data⟩ (by simp) rfl; have e0 := hH.slot 5 19 d5 l0; have g0 := hH.holds 5 l0; rw [r5] at g0; have l1 : L 9 = true := hA ⟨9, .data⟩ (by simp) rfl; have e1 := hH.slot 9 23 d9 l1; have g1 := hH.holds 9 l1; rw [r9] at g1; have l2 : L 13 = true := hA ⟨13, .data⟩ (by simp) rfl; have e2 := hH.slot 13 27 d13 l2; have g2 := hH.holds 13 l2; rw [r13] at g2; have l3 : L 15 = true := hA ⟨15, .data⟩ (by simp) rfl; have e3 := hH.slot 15 29 d15 l3; have g3 := hH.holds 15 l3; rw [r15] at g3; rw [g3] at e3; obtain ⟨o5_, c5_, s5_⟩ := rowp_form (hH.glob.o5 l0); obtain ⟨o9_, c9_, s9_⟩ := rowp_form (hH.glob.o9 l1); obtain ⟨o13_, c13_, s13_⟩ := rowp_form (hH.glob.o13 l2); rw [s5_] at e0; rw [s9_] at e1; rw [s13_] at e2; exact ⟨.agg #[γ 5, γ 9, γ 13, .int .i64 r], w, by rw [s5_, s9_, s13_]; simp [execOp, go_sem, e0, e1, e2, e3], (r16 _ _).mpr trivial, fun j v _ h => K j v _ _ h, by rw [RV.upd_ne γ (i := 16) (j := 4) _ (by decide), RV.upd_ne γ (i := 16) (j := 5) _ (by decide), RV.upd_ne γ (i := 16) (j := 9) _ (by decide), RV.upd_ne γ (i := 16) (j := 13) _ (by decide), RV.upd_ne γ (i := 16) (j := 17) _ (by decide), RV.more_ne (L := L) (i := 16) (j := 4) (by decide), RV.more_ne (L := L) (i := 16) (j := 5) (by decide), RV.more_ne (L := L) (i := 16) (j := 9) (by decide), RV.more_ne (L := L) (i := 16) (j := 13) (by decide), RV.more_ne (L := L) (i := 16) (j := 17) (by decide), RV.more_ne (L := L) (i := 16) (j := 18) (by decide), RV.upd_self, RV.more_self]; exact hH.glob.build⟩)) ?_
      refine RV.AllDo.cons 17 (RV.does_step (fun γ L a w hH hl hA => by have h18 : L 18 = false := RV.not_yet hH A_18_17 hl; refine ⟨.pointer (some ⟨w.heap.size, 0, none⟩), w.alloc (.cells #[.slice none 0 0, .slice none 0 0, .slice none 0 0, .int .i64 0] 24), by simp [execOp, go_sem], (r17 _ _).mpr trivial, fun j v _ h => K j v _ _ h, ?_⟩; rw [RV.upd_ne γ (i := 17) (j := 4) _ (by decide), RV.upd_ne γ (i := 17) (j := 5) _ (by decide), RV.upd_ne γ (i := 17) (j := 9) _ (by decide), RV.upd_ne γ (i := 17) (j := 13) _ (by decide), RV.upd_ne γ (i := 17) (j := 16) _ (by decide), RV.more_ne (L := L) (i := 17) (j := 4) (by decide), RV.more_ne (L := L) (i := 17) (j := 5) (by decide), RV.more_ne (L := L) (i := 17) (j := 9) (by decide), RV.more_ne (L := L) (i := 17) (j := 13) (by decide), RV.more_ne (L := L) (i := 17) (j := 16) (by decide), RV.more_ne (L := L) (i := 17) (j := 18) (by decide), RV.upd_self, RV.more_self]; exact hH.glob.made hfV hcf h18)) ?_
      refine RV.AllDo.cons 18 (RV.does_store (fun γ L a w hH hl hA => by have l0 : L 17 = true := hA ⟨17, .data⟩ (by simp) rfl; have e0 := hH.slot 17 7 d17 l0; have g0 := hH.holds 17 l0; rw [r17] at g0; have l1 : L 16 = true := hA ⟨16, .data⟩ (by simp) rfl; have e1 := hH.slot 16 30 d16 l1; have g1 := hH.holds 16 l1; rw [r16] at g1; have hG := hH.glob; have m5 : L 5 = true := hH.closed 16 5 A_16_5 l1; have m9 : L 9 = true := hH.closed 16 9 A_16_9 l1; have m13 : L 13 = true := hH.closed 16 13 A_16_13 l1; rw [m5, m9, m13, l0] at hG; obtain ⟨b, cs, x1, x2, x3, x4, _⟩ := hG.pd rfl; have xb := hG.bd l1; obtain ⟨o5_, c5_, s5_⟩ := rowp_form (hG.o5 rfl); obtain ⟨o9_, c9_, s9_⟩ := rowp_form (hG.o9 rfl); obtain ⟨o13_, c13_, s13_⟩ := rowp_form (hG.o13 rfl); rw [x1] at e0; rw [xb, s5_, s9_, s13_] at e1; have q9 := hG.fill hcV hfV x1 x2 x3 x4; obtain ⟨q0, q1, q2, q3, rfl⟩ := arr4' x4; have wz0 : w.cell? ⟨b, 0, none⟩ = some q0 := (by simp [World.cell?, x3]); have wz1 : w.cell? ⟨b, 1, none⟩ = some q1 := (by simp [World.cell?, x3]); have wz2 : w.cell? ⟨b, 2, none⟩ = some q2 := (by simp [World.cell?, x3]); have wz3 : w.cell? ⟨b, 3, none⟩ = some q3 := (by simp [World.cell?, x3]); have zf : ∀ o, w.frozen? ⟨b, o, none⟩ = false := fun o => (by simp [World.frozen?, x3]); refine ⟨set4 w b (γ 5) (γ 9) (γ 13) (.int .i64 r), by rw [s5_, s9_, s13_]; simp [execOp, go_sem, e0, e1, set4, wz0, wz1, wz2, wz3, zf], (r18 _ _).mpr trivial, fun j v _ h => K j v _ _ h, ?_⟩; rw [RV.upd_ne γ (i := 18) (j := 4) _ (by decide), RV.upd_ne γ (i := 18) (j := 5) _ (by decide), RV.upd_ne γ (i := 18) (j := 9) _ (by decide), RV.upd_ne γ (i := 18) (j := 13) _ (by decide), RV.upd_ne γ (i := 18) (j := 16) _ (by decide), RV.upd_ne γ (i := 18) (j := 17) _ (by decide), RV.more_ne (L := L) (i := 18) (j := 4) (by decide), RV.more_ne (L := L) (i := 18) (j := 5) (by decide), RV.more_ne (L := L) (i := 18) (j := 9) (by decide), RV.more_ne (L := L) (i := 18) (j := 13) (by decide), RV.more_ne (L := L) (i := 18) (j := 16) (by decide), RV.more_ne (L := L) (i := 18) (j := 17) (by decide), RV.more_self, m5, m9, m13, l0]; exact q9)) ?_
      exact RV.AllDo.nil
    · intro γ a5 w5 L9 hL hLo hH
      have ha := RV.held_act hH hL (by kernel_rfl) (by kernel_rfl)
      have hG := hH.glob
      rw [hL 4 (by decide), hL 5 (by decide), hL 9 (by decide), hL 13 (by decide), hL 16 (by decide), hL 17 (by decide), hL 18 (by decide)] at hG
      rw [ha]
      clear ha hH hL hLo
      simp only [RV.putAll, Act.put, List.setIfInBounds_toArray, List.set_cons_zero, List.set_cons_succ, Nat.zero_add, Nat.reduceAdd]
      obtain ⟨b7, cs, x1, x2, x3, _, x5⟩ := hG.pd rfl
      rw [x5 rfl] at x3
      rw [x1]
      obtain ⟨o5_, c5_, s5_⟩ := rowp_form (hG.o5 rfl)
      obtain ⟨o9_, c9_, s9_⟩ := rowp_form (hG.o9 rfl)
      obtain ⟨o13_, c13_, s13_⟩ := rowp_form (hG.o13 rfl)
      have T3 : Hid (Three w0 w5 (γ 5) (γ 9) (γ 13) Px2 Ax2 Ex2) := ⟨own_le (hG.o5 rfl) hwV, own_le (hG.o9 rfl) hwV, own_le (hG.o13 rfl) hwV, hG.s59 rfl rfl, hG.s53 rfl rfl, hG.s93 rfl rfl, hB0.out.grown hG.gr hwV (fun k e => by cases e; exact hfw)⟩
      have ff : w5.cell? ⟨fb, 0, none⟩ = some (.bool (f || b1 || b2 || b3)) := by have h9 := (hG.fr 0 _ rfl).1; simpa using h9
      have C7 : Hid (Cells w5 b7 [γ 5, γ 9, γ 13, .int .i64 r]) := fun i v e => ⟨by simp [World.cell?, x3]; exact e, by simp [World.frozen?, x3]⟩
      have CR : Hid (Cells w5 rb [.slice none 0 0, .slice none 0 0, .slice none 0 0, .int .i64 0]) := Cells.grew HRB.out hG.gr (fun r e => by cases e; exact hfr)
      have nb : Hid ((γ 5).ownBlock ≠ some rb ∧ (γ 9).ownBlock ≠ some rb ∧ (γ 13).ownBlock ≠ some rb) := ⟨fun e => by have := ((hG.o5 rfl).lt rb e).1; omega, fun e => by have := ((hG.o9 rfl).lt rb e).1; omega, fun e => by have := ((hG.o13 rfl).lt rb e).1; omega⟩
      have n7 : b7 ≠ rb := by omega
      have T8 : Hid (∀ X, Below w5.heap.size w5 X → Calls Tryz.prog 24 #[γ 5, .int .i64 8388608] X fun e Y => e = .returned (.bool (Px2.all fun p => p.win 8388608)) ∧ Below X.heap.size X Y) := fun X hb => allWithin_any Px2 _ _ X ((Lies.of_row T3.out.rp).below hb)
      have HN : Hid (OK = (!(f || b1 || b2 || b3) && Px2.all fun p => p.win 8388608)) := HNR
      rw [s5_, s9_, s13_] at C7 T3 nb
      rw [s5_] at T8
      rw [s5_, s9_, s13_]
      generalize (f || b1 || b2 || b3) = bad at *
      generalize (Px2.all fun p => p.win 8388608) = near at *
      clear hG x1 x3 x5 HNR s5_ s9_ s13_
      have u0 := (C7.out 0 _ rfl).1
      have u1 := (C7.out 1 _ rfl).1
      have u2 := (C7.out 2 _ rfl).1
      have u3 := (C7.out 3 _ rfl).1
      obtain ⟨k0, k0f⟩ := CR.out 0 _ rfl
      obtain ⟨k1, k1f⟩ := CR.out 1 _ rfl
      obtain ⟨k2, k2f⟩ := CR.out 2 _ rfl
      obtain ⟨k3, k3f⟩ := CR.out 3 _ rfl
      cases bad with
      | true =>
        have e9 : Hid (OK = false) := HN.out
        clear u0 u1 u2 u3 C7
        go_wp2_with (fail)
        refine bodyPost_ret (v := .tuple #[.agg #[.slice none 0 0, .slice none 0 0, .slice none 0 0, .int .i64 0], .bool false]) (by simp [results, Tryz.results6, go_sem, k0, k1, k2, k3]) rfl ?_
        exact ⟨_, _, _, fun _ => ⟨rfl, three_nil (set4_below T3.out.below hrw _ _ _ _)⟩, fun e => by rw [e9.out] at e; cases e⟩
      | false =>
        go_wp2_with (fail)
        refine Calls.mono (T8.out _ (Below.refl _ _)) ?_
        rintro e X ⟨rfl, hb⟩
        have T4 : Hid _ := T3.out.step hb
        have v0 := c_after hb u0
        have v1 := c_after hb u1
        have v2 := c_after hb u2
        have v3 := c_after hb u3
        have h0 := c_after hb k0
        have h1 := c_after hb k1
        have h2 := c_after hb k2
        have h3 := c_after hb k3
        have h0f := f_after hb k0 k0f
        have h1f := f_after hb k1 k1f
        have h2f := f_after hb k2 k2f
        have h3f := f_after hb k3 k3f
        clear u0 u1 u2 u3 k0 k1 k2 k3 k0f k1f k2f k3f hb C7 CR T3 ff
        cases near with
        | false =>
          have e9 : Hid (OK = false) := HN.out
          clear v0 v1 v2 v3
          go_wp2_with (fail)
          refine bodyPost_ret (v := .tuple #[.agg #[.slice none 0 0, .slice none 0 0, .slice none 0 0, .int .i64 0], .bool false]) (by simp [results, Tryz.results6, go_sem, h0, h1, h2, h3]) rfl ?_
          exact ⟨_, _, _, fun _ => ⟨rfl, three_nil (set4_below T4.out.below hrw _ _ _ _)⟩, fun e => by rw [e9.out] at e; cases e⟩
        | true =>
          have e9 : Hid (OK = true) := HN.out
          go_wp2_with (fail)
          refine bodyPost_ret (v := .tuple #[.agg #[.slice o5_ Px2.length c5_, .slice o9_ Ax2.length c9_, .slice o13_ Ex2.length c13_, .int .i64 r], .bool true]) (by simp [results, Tryz.results6, go_sem, h0, h1, h2, h3]) rfl ?_
          exact ⟨_, _, _, fun e => (by rw [e9.out] at e; cases e), fun _ => ⟨rfl, T4.out.set hrw nb.out.1 nb.out.2.1 nb.out.2.2 _ _ _ _⟩⟩
end Go.Proofs.YtompnibhfdkkjaaGreat
namespace Go.Proofs.YtompnibhfdkkjaaGreat
open Go.RowKit Ref Fx
set_option linter.unusedVariables false

theorem Ho.lay {W V : World} {p : Addr} {po : Nat} {f g : Bool} {l : List (Addr × Value)} (h : Ho W V p po f g l) (cs : Array Value) (t : TypeId) (k : List (Addr × Value)) (hk : ∀ c ∈ k, ∃ i : Nat, c.1 = ⟨V.heap.size, i, none⟩ ∧ cs[i]? = some c.2) : Ho W (V.alloc (.cells cs t)) p po f g (k ++ l) := by
  have h2 := h.alloc (.cells cs t)
  have hlt := World.block_lt_of_cell? _ _ h.own
  dsimp only at hlt
  refine ⟨h2.leaves, h2.flag, h2.flagf, h2.own, h2.ownf, fun c hc => ?_, fun c hc => ?_, h2.hp, h2.ho⟩
  · rcases List.mem_append.1 hc with hc | hc
    · obtain ⟨i, e, hi⟩ := hk c hc
      rw [e]
      exact ⟨by rw [World.cell?_alloc_at _ _ _ _ rfl]; exact hi, by simp [go_sem]⟩
    · exact h2.fix c hc
  · rcases List.mem_append.1 hc with hc | hc
    · obtain ⟨i, e, hi⟩ := hk c hc
      rw [e]; show V.heap.size ≠ po; omega
    · exact h2.far c hc
end Go.Proofs.YtompnibhfdkkjaaGreat
namespace Go.Proofs.YtompnibhfdkkjaaGreat
open Go.RowKit Fx
set_option linter.unusedVariables false

/-- What a minus is. -/
theorem neg_is (y : Int) : ((sub 0 y).isNone = true ∧ great y = true ∧ great (-y) = true) ∨ ((sub 0 y) = some (-y) ∧ great y = false ∧ great (-y) = false) := by
  cases h : great y
  · have h' := (not_great y).1 h
    have g : great (-y) = false := (not_great _).2 (by omega)
    refine Or.inr ⟨?_, rfl, g⟩
    have z : great 0 = false := by decide
    have e : (0 : Int) - y = -y := by omega
    simp [sub, h, z, told, e, g]
  · have h' := (great_iff y).1 h
    refine Or.inl ⟨?_, rfl, (great_iff _).2 (by omega)⟩
    simp [sub, h]
end Go.Proofs.YtompnibhfdkkjaaGreat
