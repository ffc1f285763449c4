/- Package ccd: grains, the least part of all, the place that is reckoned, Hold. -/
import Derived.Test.YtbhdfjoagajipaaGreatBBW10
import Derived.Test.YtbhdfjoagajipaaGreatBBW16
import Derived.Test.YtbhdfjoagajipaaGreatBBW9
namespace Go.Proofs.YtbhdfjoagajipaaGreat
open Go.RowKit Go.Shelf Fx
set_option linter.unusedVariables false

def V3.i64 (v : V3) : Prop := (-9223372036854775808 ≤ v.x ∧ v.x ≤ 9223372036854775807) ∧ (-9223372036854775808 ≤ v.y ∧ v.y ≤ 9223372036854775807) ∧ (-9223372036854775808 ≤ v.z ∧ v.z ≤ 9223372036854775807)
set_option maxHeartbeats 1000000 in
theorem hgrn_any (v : V3) (w : World) :
    Calls Tryz.prog 34 #[v.val] w fun e W => e = .returned (grn v).v ∧ Below w.heap.size w W := by
  obtain ⟨x, y, z⟩ := v
  unfold grn Pt.v
  dsimp only [V3.val]
  go_enter Tryz.func34, Tryz.ntmps34
  go_wp2
  exact bodyPost_ret (v := .agg #[.int .i64 (x / 1048576), .int .i64 (y / 1048576), .int .i64 (z / 1048576)]) (by simp [results, Tryz.results34, go_sem]) rfl ⟨rfl, ((Below.refl _ w).alloc (Nat.le_refl _) _).alloc (by simp) _⟩
set_option maxHeartbeats 1000000 in
theorem hless_any (p q : Pt) (w : World) (hp : p.inB 1152921504606846976 = true) (hq : q.inB 1152921504606846976 = true) :
    Calls Tryz.prog 36 #[p.v, q.v] w fun e W => e = .returned (p.sub q).v ∧ Below w.heap.size w W := by
  obtain ⟨x, y, z⟩ := p
  obtain ⟨x', y', z'⟩ := q
  rw [Pt.inB_iff] at hp hq
  unfold Pt.v Pt.sub
  dsimp only at *
  go_enter Tryz.func36, Tryz.ntmps36
  go_wp2
  exact bodyPost_ret (v := .agg #[.int .i64 (x - x'), .int .i64 (y - y'), .int .i64 (z - z')]) (by simp [results, Tryz.results36, go_sem]) rfl ⟨rfl, (((Below.refl _ w).alloc (Nat.le_refl _) _).alloc (by simp) _).alloc (by simp; omega) _⟩
set_option maxHeartbeats 4000000 in
set_option maxRecDepth 100000 in
theorem hclo_any (a : Cr) (wy : Pt) (b : Cr) (k : Nat) (ab wb : Nat) (pv av ev qv bv fv : Value) (w0 : World) (hp : Lies w0 pv a.P) (ha : Lies w0 av a.A) (he : Lies w0 ev a.E) (hq : Lies w0 qv b.P) (hb : Lies w0 bv b.A) (hf : Lies w0 fv b.E) (hc : Cel w0 ab [pv, av, ev, .int .i64 a.r]) (hw : Cel w0 wb [.int .i64 wy.x, .int .i64 wy.y, .int .i64 wy.z]) :
    Calls Tryz.prog 82 #[.int .i64 (k : Nat), coreA qv bv fv b.r, .pointer (some ⟨ab, 0, none⟩), .pointer (some ⟨wb, 0, none⟩)] w0 fun e W => e = .returned (.int .i64 ((if holdP a wy b then min k (castR a wy b).1 else k : Nat) : Int)) ∧ Below w0.heap.size w0 W := by
  have HCS : Hid _ := fun (w' : World) (h : Below w0.heap.size w0 w') => wcast_any a wy b pv av ev qv bv fv w' (hp.below h) (ha.below h) (he.below h) (hq.below h) (hb.below h) (hf.below h)
  obtain ⟨o1, c1, rfl, _⟩ := hp.form
  obtain ⟨o2, c2, rfl, _⟩ := ha.form
  obtain ⟨o3, c3, rfl, _⟩ := he.form
  obtain ⟨o4, c4, rfl, _⟩ := hq.form
  obtain ⟨o5, c5, rfl, _⟩ := hb.form
  obtain ⟨o6, c6, rfl, _⟩ := hf.form
  have H1 : Hid (Cel _ _ _) := hc
  have H2 : Hid (Cel _ _ _) := hw
  clear hp ha he hq hb hf hc hw
  unfold holdP
  generalize castB a wy b = cb at *
  obtain ⟨⟨m, ⟨xx, xy, xz⟩, xg⟩, hx⟩ : ∃ x, castR a wy b = x := ⟨_, rfl⟩
  rw [hx] at HCS ⊢
  clear hx
  dsimp only
  obtain ⟨rv, hrv⟩ : ∃ r : Nat, r = (if (cb && decide (0 ≤ xg)) = true then min k m else k) := ⟨_, rfl⟩
  rw [← hrv]
  have HRV : Hid _ := hrv
  clear hrv
  obtain ⟨wx, wY, wz⟩ := wy
  unfold coreA apV Pt.v at *
  dsimp only at *
  obtain ⟨X, hX⟩ : ∃ V, V = w0.alloc (.cells #[.slice o4 b.P.length c4, .slice o5 b.A.length c5, .slice o6 b.E.length c6, .int .i64 b.r] 35) := ⟨_, rfl⟩
  obtain ⟨bb, hbb⟩ : ∃ b, b = w0.heap.size := ⟨_, rfl⟩
  have hbx : Below w0.heap.size w0 X := by rw [hX]; exact n_after _ _
  have C1 : Hid (Cel _ _ _) := H1.out.step hbx
  have C2 : Hid (Cel _ _ _) := H2.out.step hbx
  have C3 : Hid (Cel X bb [.slice o4 b.P.length c4, .slice o5 b.A.length c5, .slice o6 b.E.length c6, .int .i64 b.r]) := by show Cel _ _ _; rw [hX, hbb]; exact Cel.new w0 [.slice o4 b.P.length c4, .slice o5 b.A.length c5, .slice o6 b.E.length c6, .int .i64 b.r] 35
  have HB : Hid _ := hbx
  clear hbx H1 H2
  go_enter Tryz.func82, Tryz.ntmps82
  go_upto_region 1 with fail
  rw [← hX, ← hbb]
  clear hX hbb
  have x0 := C1.out 0 _ rfl
  have x1 := C1.out 1 _ rfl
  have x2 := C1.out 2 _ rfl
  have x3 := C1.out 3 _ rfl
  have v0 := C2.out 0 _ rfl
  have v1 := C2.out 1 _ rfl
  have v2 := C2.out 2 _ rfl
  have y0 := C3.out 0 _ rfl
  have y1 := C3.out 1 _ rfl
  have y2 := C3.out 2 _ rfl
  have y3 := C3.out 3 _ rfl
  go_wp2_with (fail)
  refine Calls.mono (HCS.out _ HB.out) ?_
  rintro e V4 ⟨rfl, hb⟩
  have HB : Hid _ := b_step (b_step HB.out hb) (n_after V4 (.cells #[.int .i64 xx, .int .i64 xy, .int .i64 xz, .int .i64 xg] 71))
  clear hb x0 x1 x2 x3 y0 y1 y2 y3 v0 v1 v2 HCS C1 C2 C3
  cases cb with
  | false =>
    obtain rfl : rv = k := by rw [HRV.out]; rfl
    clear HRV
    go_wp2_with (fail)
    exact bodyPost_ret (v := .int .i64 ((rv : Nat) : Int)) (by simp [results, Tryz.results82, go_sem]) rfl ⟨rfl, HB.out⟩
  | true =>
    by_cases hg : xg < 0
    · have e1 : decide (0 ≤ xg) = false := decide_eq_false (by omega)
      obtain rfl : rv = k := by rw [HRV.out, e1]; rfl
      clear e1 HRV
      go_wp2_with (fail)
      exact bodyPost_ret (v := .int .i64 ((rv : Nat) : Int)) (by simp [results, Tryz.results82, go_sem]) rfl ⟨rfl, HB.out⟩
    · have e1 : decide (0 ≤ xg) = true := decide_eq_true (by omega)
      have e2 : rv = min k m := by rw [HRV.out, e1]; rfl
      clear e1 HRV
      rcases Nat.lt_trichotomy k m with hlt | hlt | hlt
      · obtain rfl : rv = k := by omega
        have h1 : ¬ (m : Int) < (rv : Int) := by omega
        have h2 : (rv : Int) < (m : Int) := by omega
        clear hlt e2
        go_wp2_with (fail)
        exact bodyPost_ret (v := .int .i64 ((rv : Nat) : Int)) (by simp [results, Tryz.results82, go_sem]) rfl ⟨rfl, HB.out⟩
      · subst hlt
        obtain rfl : rv = k := by omega
        clear e2
        go_wp2_with (fail)
        exact bodyPost_ret (v := .int .i64 ((rv : Nat) : Int)) (by simp [results, Tryz.results82, go_sem]) rfl ⟨rfl, HB.out⟩
      · obtain rfl : rv = m := by omega
        have h1 : (rv : Int) < (k : Int) := by omega
        have h2 : ¬ (k : Int) < (rv : Int) := by omega
        clear hlt e2
        go_wp2_with (fail)
        exact bodyPost_ret (v := .int .i64 ((rv : Nat) : Int)) (by simp [results, Tryz.results82, go_sem]) rfl ⟨rfl, HB.out⟩
set_option maxHeartbeats 8000000 in
set_option maxRecDepth 100000 in
theorem hfold_any (a : Cr) (wy : Pt) (L : List Cr) (ab wb : Nat) (lv pv av ev : Value) (w0 : World) (hl : LiesC w0 lv L) (hp : Lies w0 pv a.P) (ha : Lies w0 av a.A) (he : Lies w0 ev a.E) (hc : Cel w0 ab [pv, av, ev, .int .i64 a.r]) (hw : Cel w0 wb [.int .i64 wy.x, .int .i64 wy.y, .int .i64 wy.z]) :
    Calls Tryz.prog 81 #[lv, .int .i64 16, .func (.func 82) #[] #[.pointer (some ⟨ab, 0, none⟩), .pointer (some ⟨wb, 0, none⟩)]] w0 fun e W => e = .returned (.int .i64 ((holdK a wy L L.length : Nat) : Int)) ∧ Below w0.heap.size w0 W := by
  have HN1 : Hid _ := fun (k : Nat) (b : Cr) (qv bv fv : Value) (w' : World) (h : Below w0.heap.size w0 w') (hq : Lies w' qv b.P) (hb : Lies w' bv b.A) (hf : Lies w' fv b.E) => hclo_any a wy b k ab wb pv av ev qv bv fv w' (hp.below h) (ha.below h) (he.below h) hq hb hf (hc.step h) (hw.step h)
  have HL : Hid _ := hl
  obtain ⟨o, cap, rfl, hlc, hcm, _⟩ := hl.form
  clear hl hp ha he hc hw
  go_enter Tryz.func81, Tryz.ntmps81
  go_wp2_with (fail)
  go_loopg [1, 11] L.length (fun gm s1 s11 wr => ∃ (i k : Nat), s1 = .int .i64 (k : Int) ∧ s11 = .int .i64 (i : Int) ∧ i ≤ L.length ∧ Hid (gm = L.length - i) ∧ Hid (Below w0.heap.size w0 wr) ∧ Hid (k = holdK a wy L i))
  case atStart => exact ⟨0, 16, rfl, rfl, Nat.zero_le _, rfl, Below.refl _ _, rfl⟩
  case round =>
    obtain ⟨i, k, rfl, rfl, hi9, HG, HB, HE⟩ := hrel
    by_cases hit : i < L.length
    · have hl1 : (i : Int) < (L.length : Int) := by omega
      obtain ⟨o', cap', e', _, _, hcl⟩ := (HL.out.below HB.out).form
      cases e'
      obtain ⟨ge, fe, qv, bv, fv, rfl, x0, x1, x2, x3, l1, l2, l3⟩ := hcl i hit
      clear hcl
      have HY1 : Hid _ := fun (w' : World) (h : Below wr.heap.size wr w') => HN1.out k (cr L i) qv bv fv w' (b_step HB.out h) (l1.below h) (l2.below h) (l3.below h)
      have HSK : Hid (holdK a wy L (i + 1) = if holdP a wy (cr L i) then min (holdK a wy L i) (castR a wy (cr L i)).1 else holdK a wy L i) := rfl
      obtain ⟨b, hb⟩ : ∃ x, cr L i = x := ⟨_, rfl⟩
      rw [hb] at x3 l1 l2 l3 HY1 HSK
      obtain ⟨o4, c4, rfl, _⟩ := l1.form
      obtain ⟨o5, c5, rfl, _⟩ := l2.form
      obtain ⟨o6, c6, rfl, _⟩ := l3.form
      clear hb l1 l2 l3 HN1
      rw [← HE.out] at HSK
      obtain ⟨k2, hk2⟩ : ∃ x, (if holdP a wy b then min k (castR a wy b).1 else k) = x := ⟨_, rfl⟩
      rw [hk2] at HY1 HSK
      clear hk2
      unfold coreA at HY1
      obtain ⟨V1, hV1⟩ : ∃ V, V = wr.alloc (.cells #[.slice o4 b.P.length c4, .slice o5 b.A.length c5, .slice o6 b.E.length c6, .int .i64 b.r] 35) := ⟨_, rfl⟩
      obtain ⟨nb, hnb⟩ : ∃ b, b = wr.heap.size := ⟨_, rfl⟩
      have hb1 : Below wr.heap.size wr V1 := by rw [hV1]; exact n_after _ _
      have CN : Hid (Cel V1 nb [.slice o4 b.P.length c4, .slice o5 b.A.length c5, .slice o6 b.E.length c6, .int .i64 b.r]) := by show Cel _ _ _; rw [hV1, hnb]; exact Cel.new wr [.slice o4 b.P.length c4, .slice o5 b.A.length c5, .slice o6 b.E.length c6, .int .i64 b.r] 35
      have HY1 : Hid _ := HY1.out V1 hb1
      have HB : Hid _ := b_step HB.out hb1
      go_upto_region 4 with fail
      rw [← hV1, ← hnb]
      clear hV1 hnb hb1 x0 x1 x2 x3
      have x0 := CN.out 0 _ rfl
      have x1 := CN.out 1 _ rfl
      have x2 := CN.out 2 _ rfl
      have x3 := CN.out 3 _ rfl
      go_wp2_with (fail)
      refine Calls.mono HY1.out ?_
      rintro e V2 ⟨rfl, hb⟩
      have HB : Hid _ := b_step HB.out hb
      clear hb x0 x1 x2 x3 CN HY1 HE
      go_wp2_with (fail)
      go_roundg (L.length - (i + 1))
      case measure => have := HG.out; omega
      case rel => exact ⟨i + 1, k2, rfl, by go_num, by omega, rfl, HB, by show _ = _; rw [HSK.out]⟩
    · obtain rfl : i = L.length := by omega
      clear HN1 HL
      go_wp2_with (fail)
      exact bodyPost_ret (v := .int .i64 ((k : Nat) : Int)) (by simp [results, Tryz.results81, go_sem]) rfl ⟨by rw [HE.out], HB.out⟩
set_option maxHeartbeats 4000000 in
set_option maxRecDepth 100000 in
theorem hfree_any (a : Cr) (wy : Pt) (L : List Cr) (lv pv av ev : Value) (w0 : World) (hl : LiesC w0 lv L) (hp : Lies w0 pv a.P) (ha : Lies w0 av a.A) (he : Lies w0 ev a.E) :
    Calls Tryz.prog 35 #[coreA pv av ev a.r, wy.v, lv] w0 fun e W => e = .returned (.int .i64 ((holdK a wy L L.length : Nat) : Int)) ∧ Below w0.heap.size w0 W := by
  have HFO : Hid _ := fun (ab wb : Nat) (w' : World) (h : Below w0.heap.size w0 w') (hc : Cel w' ab [pv, av, ev, .int .i64 a.r]) (hw : Cel w' wb [.int .i64 wy.x, .int .i64 wy.y, .int .i64 wy.z]) => hfold_any a wy L ab wb lv pv av ev w' (hl.below h) (hp.below h) (ha.below h) (he.below h) hc hw
  obtain ⟨o, cap, rfl, _⟩ := hl.form
  obtain ⟨o1, c1, rfl, _⟩ := hp.form
  obtain ⟨o2, c2, rfl, _⟩ := ha.form
  obtain ⟨o3, c3, rfl, _⟩ := he.form
  clear hl hp ha he
  generalize holdK a wy L L.length = k at *
  obtain ⟨wx, wY, wz⟩ := wy
  unfold coreA Pt.v at *
  dsimp only at *
  obtain ⟨X, hX⟩ : ∃ V, V = (w0.alloc (.cells #[.slice o1 a.P.length c1, .slice o2 a.A.length c2, .slice o3 a.E.length c3, .int .i64 a.r] 35)).alloc (.cells #[.int .i64 wx, .int .i64 wY, .int .i64 wz] 23) := ⟨_, rfl⟩
  have n2 := Cel.new (w0.alloc (.cells #[.slice o1 a.P.length c1, .slice o2 a.A.length c2, .slice o3 a.E.length c3, .int .i64 a.r] 35)) [.int .i64 wx, .int .i64 wY, .int .i64 wz] 23
  rw [World.size_alloc] at n2
  have C1 : Cel X w0.heap.size [.slice o1 a.P.length c1, .slice o2 a.A.length c2, .slice o3 a.E.length c3, .int .i64 a.r] := by rw [hX]; exact (Cel.new w0 [.slice o1 a.P.length c1, .slice o2 a.A.length c2, .slice o3 a.E.length c3, .int .i64 a.r] 35).step (n_after _ _)
  have C2 : Cel X (w0.heap.size + 1) [.int .i64 wx, .int .i64 wY, .int .i64 wz] := by rw [hX]; exact n2
  have HB : Hid (Below w0.heap.size w0 X) := by show Below _ _ _; rw [hX]; exact b_step (n_after _ _) (n_after _ _)
  have HFO : Hid _ := HFO.out w0.heap.size (w0.heap.size + 1) X HB.out C1 C2
  clear n2 C1 C2
  go_enter Tryz.func35, Tryz.ntmps35
  go_upto_region 1 with fail
  rw [← hX]
  clear hX
  go_wp2_with (fail)
  refine Calls.mono HFO.out ?_
  rintro e V2 ⟨rfl, hb⟩
  have HB : Hid _ := b_step HB.out hb
  clear hb HFO
  go_wp2_with (fail)
  exact bodyPost_ret (v := .int .i64 ((k : Nat) : Int)) (by simp [results, Tryz.results35, go_sem]) rfl ⟨rfl, HB.out⟩

end Go.Proofs.YtbhdfjoagajipaaGreat
namespace Go.Proofs.YtbhdfjoagajipaaGreat
open Go.RowKit Go.Shelf Fx
set_option linter.unusedVariables false

set_option maxHeartbeats 8000000 in
set_option maxRecDepth 100000 in
theorem hold_any (f t : V3) (r : Int) (L : List Cr) (lv : Value) (fb : Nat) (fl : Bool) (W : World) (hl : LiesC W lv L) (hc : W.cell? ⟨fb, 0, none⟩ = some (.bool fl)) (hf : W.frozen? ⟨fb, 0, none⟩ = false) (bf : f.i64) (bt : t.i64) :
    Calls Tryz.prog 12 #[.pointer (some ⟨fb, 0, none⟩), f.val, t.val, .int .i64 r, lv] W fun e W' => e = .returned (.tuple #[(holdV f t r L).1.val, .int .i64 ((holdV f t r L).2 : Nat)]) ∧ Hid (After ⟨fb, 0, none⟩ (fl || holdN f t r L) W W') := by
  have hbW : fb < W.heap.size := World.block_lt_of_cell? _ _ hc
  have HFR : Hid _ := fun (v : Value) (w' : World) (h : Below W.heap.size W w') (hp : Lies w' v [grn f]) => hfree_any (ballC f r) (wayZ f t) L lv v (.slice none 0 0) (.slice none 0 0) w' (hl.below h) hp (lies_nil9 _) (lies_nil9 _)
  have HGR : Hid _ := fun w' => hgrn_any f w'
  have HGT : Hid _ := fun w' => hgrn_any t w'
  have HLE : Hid _ := fun w' => hless_any (grn t) (grn f) w' (by rw [Pt.inB_iff]; unfold grn; dsimp only; unfold V3.i64 at bt; omega) (by rw [Pt.inB_iff]; unfold grn; dsimp only; unfold V3.i64 at bf; omega)
  have HAL : Hid _ := fun (k : Int) (w' : World) (h1 : w'.cell? ⟨fb, 0, none⟩ = some (.bool fl)) (h2 : w'.frozen? ⟨fb, 0, none⟩ = false) => halong_any f t k fb fl w' h1 h2
  have HHV : Hid (holdV f t r L = if hK f t r L = 16 then (t, 16) else if alN f t (hK f t r L) then (f, 0) else (alV f t (hK f t r L), hK f t r L)) := rfl
  have HHN : Hid (holdN f t r L = (decide (hK f t r L ≠ 16) && alN f t (hK f t r L))) := rfl
  have HKE : Hid (holdK (ballC f r) (wayZ f t) L L.length = hK f t r L) := rfl
  rw [HKE.out, show wayZ f t = (grn t).sub (grn f) from rfl, show (ballC f r).r = r from rfl] at HFR
  clear HKE bf bt
  obtain ⟨o, cap, rfl, _⟩ := hl.form
  clear hl
  obtain ⟨⟨hv1, hv2⟩, hhv⟩ : ∃ x, holdV f t r L = x := ⟨_, rfl⟩
  rw [hhv] at HHV ⊢
  clear hhv
  dsimp only at HHV ⊢
  generalize holdN f t r L = hn at *
  generalize hK f t r L = k at *
  generalize (grn t).sub (grn f) = wy at *
  generalize grn t = gt at *
  generalize grn f = gf at *
  obtain ⟨V, hV⟩ : ∃ V, V = (((W.alloc (.cells #[.int .i64 f.x, .int .i64 f.y, .int .i64 f.z] 27)).alloc (.cells #[.int .i64 t.x, .int .i64 t.y, .int .i64 t.z] 27)).alloc (.cells #[.int .i64 0, .int .i64 0, .int .i64 0] 27)) := ⟨_, rfl⟩
  have hb0 := n_after W (.cells #[.int .i64 f.x, .int .i64 f.y, .int .i64 f.z] 27)
  have hb1 := n_after (W.alloc (.cells #[.int .i64 f.x, .int .i64 f.y, .int .i64 f.z] 27)) (.cells #[.int .i64 t.x, .int .i64 t.y, .int .i64 t.z] 27)
  have hb2 := n_after ((W.alloc (.cells #[.int .i64 f.x, .int .i64 f.y, .int .i64 f.z] 27)).alloc (.cells #[.int .i64 t.x, .int .i64 t.y, .int .i64 t.z] 27)) (.cells #[.int .i64 0, .int .i64 0, .int .i64 0] 27)
  have Cf : CW V (W.heap.size) [.int .i64 f.x, .int .i64 f.y, .int .i64 f.z] := by
    have h9 := ((CW.new W [.int .i64 f.x, .int .i64 f.y, .int .i64 f.z] 27).step hb1).step hb2
    rw [hV]; exact h9
  have Ct : CW V (W.heap.size + 1) [.int .i64 t.x, .int .i64 t.y, .int .i64 t.z] := by
    have h9 := (CW.new (W.alloc (.cells #[.int .i64 f.x, .int .i64 f.y, .int .i64 f.z] 27)) [.int .i64 t.x, .int .i64 t.y, .int .i64 t.z] 27).step hb2
    simp only [World.size_alloc] at h9
    rw [hV]; exact h9
  have Cr : CW V (W.heap.size + 1 + 1) [.int .i64 0, .int .i64 0, .int .i64 0] := by
    have h9 := CW.new ((W.alloc (.cells #[.int .i64 f.x, .int .i64 f.y, .int .i64 f.z] 27)).alloc (.cells #[.int .i64 t.x, .int .i64 t.y, .int .i64 t.z] 27)) [.int .i64 0, .int .i64 0, .int .i64 0] 27
    simp only [World.size_alloc] at h9
    rw [hV]; exact h9
  have hB : Below W.heap.size W V := by rw [hV]; exact (b_step (b_step hb0 hb1) hb2)
  clear hb0 hb1 hb2
  have hcV := c_after hB hc
  have hfV := f_after hB hc hf
  have HLV : Hid (Leaves ⟨fb, 0, none⟩ W V) := (Leaves.refl _ _).step hB
  have HB : Hid _ := hB
  clear hc hf hB
  obtain ⟨gx, gy, gz⟩ := gf
  unfold coreA Pt.v at *
  dsimp only at *
  go_enter Tryz.func12, Tryz.ntmps12
  go_upto_region 1 with fail
  rw [← hV]
  clear hV
  obtain ⟨pr, hpr⟩ : ∃ p, p = W.heap.size + 1 + 1 := ⟨_, rfl⟩
  obtain ⟨pt, hpt⟩ : ∃ p, p = W.heap.size + 1 := ⟨_, rfl⟩
  obtain ⟨pf, hpf⟩ : ∃ p, p = W.heap.size := ⟨_, rfl⟩
  rw [← hpr] at Cr
  rw [← hpt] at Ct
  rw [← hpf] at Cf
  rw [← hpr, ← hpt, ← hpf]
  have f0 := (Cf 0 _ rfl).1
  have f1 := (Cf 1 _ rfl).1
  have f2 := (Cf 2 _ rfl).1
  have HPX : Hid (pf = W.heap.size ∧ pt = W.heap.size + 1 ∧ pr = W.heap.size + 1 + 1) := ⟨hpf, hpt, hpr⟩
  clear hpf hpt hpr
  go_wp2_with (fail)
  refine Calls.mono (HGR.out _) ?_
  rintro e V1 ⟨rfl, hb⟩
  obtain ⟨V2, hV2⟩ : ∃ V, V = ((V1.alloc (.cells #[.int .i64 gx, .int .i64 gy, .int .i64 gz] 23)).alloc (.cells #[.int .i64 gx, .int .i64 gy, .int .i64 gz] 23)).alloc (.cells #[.slice (some ⟨V1.heap.size + 1, 0, none⟩) 1 1, .slice none 0 0, .slice none 0 0, .int .i64 r] 35) := ⟨_, rfl⟩
  have hb2 : Below V1.heap.size V1 V2 := by rw [hV2]; exact b_step (b_step (n_after _ _) (n_after _ _)) (n_after _ _)
  obtain ⟨ga, hga⟩ : ∃ b, b = V1.heap.size := ⟨_, rfl⟩
  obtain ⟨gs, hgs⟩ : ∃ b, b = V1.heap.size + 1 := ⟨_, rfl⟩
  obtain ⟨gb, hgb⟩ : ∃ b, b = V1.heap.size + 1 + 1 := ⟨_, rfl⟩
  have n2 := Cel.new (V1.alloc (.cells #[.int .i64 gx, .int .i64 gy, .int .i64 gz] 23)) [.int .i64 gx, .int .i64 gy, .int .i64 gz] 23
  rw [World.size_alloc] at n2
  have n3 := Cel.new ((V1.alloc (.cells #[.int .i64 gx, .int .i64 gy, .int .i64 gz] 23)).alloc (.cells #[.int .i64 gx, .int .i64 gy, .int .i64 gz] 23)) [.slice (some ⟨V1.heap.size + 1, 0, none⟩) 1 1, .slice none 0 0, .slice none 0 0, .int .i64 r] 35
  rw [World.size_alloc, World.size_alloc] at n3
  have CG : Hid (Cel V2 ga [.int .i64 gx, .int .i64 gy, .int .i64 gz]) := by show Cel _ _ _; rw [hV2, hga]; exact ((Cel.new V1 [.int .i64 gx, .int .i64 gy, .int .i64 gz] 23).step (n_after _ _)).step (n_after _ _)
  have LG : Hid (Lies V2 (.slice (some ⟨gs, 0, none⟩) 1 1) [⟨gx, gy, gz⟩]) := by show Lies _ _ _; rw [hV2, hgs]; exact lies_one9 (n2.step (n_after _ _))
  have CB : Hid (Cel V2 gb [.slice (some ⟨gs, 0, none⟩) 1 1, .slice none 0 0, .slice none 0 0, .int .i64 r]) := by show Cel _ _ _; rw [hV2, hgb, hgs]; exact n3
  have HB2 : Hid (Below V.heap.size V V2) := b_step hb hb2
  clear hb hb2 n2 n3 f0 f1 f2 HGR
  go_upto_region 3 with fail
  rw [← hV2, ← hgb, ← hgs, ← hga]
  clear hV2 hga hgs hgb
  have t0 := c_after HB2.out (Ct 0 _ rfl).1
  have t1 := c_after HB2.out (Ct 1 _ rfl).1
  have t2 := c_after HB2.out (Ct 2 _ rfl).1
  have g0 := CG.out 0 _ rfl
  have g1 := CG.out 1 _ rfl
  have g2 := CG.out 2 _ rfl
  have b0 := CB.out 0 _ rfl
  have b1 := CB.out 1 _ rfl
  have b2 := CB.out 2 _ rfl
  have b3 := CB.out 3 _ rfl
  refine RV.rs [.some (.agg #[.slice (some ⟨gs, 0, none⟩) 1 1, .slice none 0 0, .slice none 0 0, .int .i64 r]), .some (.agg #[.int .i64 (t.x), .int .i64 (t.y), .int .i64 (t.z)]), .some (.agg #[.int .i64 gt.x, .int .i64 gt.y, .int .i64 gt.z]), .some (.agg #[.int .i64 (gx), .int .i64 (gy), .int .i64 (gz)]), .some (.agg #[.int .i64 wy.x, .int .i64 wy.y, .int .i64 wy.z]), .some (.slice o L.length cap), .some (.int .i64 ((k : Nat))), .some (.int .i64 ((k : Nat)))] [22, 23, 24, 25, 26, 27, 28, 15] [(4, .slice o L.length cap), (7, .pointer (some ⟨pt, 0, none⟩)), (12, .pointer (some ⟨ga, 0, none⟩)), (13, .pointer (some ⟨gb, 0, none⟩))] (fun γ L w => Below V2.heap.size V2 w) ⟨rfl, rfl, rfl, rfl, trivial⟩ (Below.refl _ V2).drew ?_ ?_
  · intro D WA Z hD hWA hZ T
    simp only [RV.Outs, RV.Slots, Nat.reduceAdd] at T
    (refine RV.AllDo.cons _ (RV.pu T (fun γ v L w hl h => h) (fun γ L a w hH hl h9 k9 => ⟨_, ?_, rfl⟩)) ?_; · have q0 := c_after hH.glob b0; have q1 := c_after hH.glob b1; have q2 := c_after hH.glob b2; have q3 := c_after hH.glob b3; simp [execOp, go_sem, h9, q0, q1, q2, q3])
    (refine RV.AllDo.cons _ (RV.pu T (fun γ v L w hl h => h) (fun γ L a w hH hl h9 k9 => ⟨_, ?_, rfl⟩)) ?_; · have q0 := c_after hH.glob t0; have q1 := c_after hH.glob t1; have q2 := c_after hH.glob t2; simp [execOp, go_sem, h9, q0, q1, q2])
    refine RV.AllDo.cons _ (RV.does_call (fun γ L a w hH hl hA => by have h9 := T γ L a w hH; have k9 := hA; simp [Region.binds] at k9; exact ⟨_, _, by simp [go_sem, h9, k9], Calls.mono (HGT.out w) (by rintro e w2 ⟨rfl, ha⟩; exact ⟨_, rfl, rfl, fun j v _ h => h.keep _, b_step hH.glob ha⟩)⟩)) ?_
    (refine RV.AllDo.cons _ (RV.pu T (fun γ v L w hl h => h) (fun γ L a w hH hl h9 k9 => ⟨_, ?_, rfl⟩)) ?_; · have q0 := c_after hH.glob g0; have q1 := c_after hH.glob g1; have q2 := c_after hH.glob g2; simp [execOp, go_sem, h9, q0, q1, q2])
    refine RV.AllDo.cons _ (RV.does_call (fun γ L a w hH hl hA => by have h9 := T γ L a w hH; have k9 := hA; simp [Region.binds] at k9; exact ⟨_, _, by simp [go_sem, h9, k9], Calls.mono (HLE.out w) (by rintro e w2 ⟨rfl, ha⟩; exact ⟨_, rfl, rfl, fun j v _ h => h.keep _, b_step hH.glob ha⟩)⟩)) ?_
    (refine RV.AllDo.cons _ (RV.pu T (fun γ v L w hl h => h) (fun γ L a w hH hl h9 k9 => ⟨_, ?_, rfl⟩)) ?_; · simp [execOp, go_sem, h9])
    refine RV.AllDo.cons _ (RV.does_call (fun γ L a w hH hl hA => by have h9 := T γ L a w hH; have k9 := hA; simp [Region.binds] at k9; exact ⟨_, _, by simp [go_sem, h9, k9], Calls.mono (HFR.out _ w (b_step (b_step HB.out HB2.out) hH.glob) (LG.out.below hH.glob)) (by rintro e w2 ⟨rfl, ha⟩; exact ⟨_, rfl, rfl, fun j v _ h => h.keep _, b_step hH.glob ha⟩)⟩)) ?_
    (refine RV.AllDo.cons _ (RV.pu T (fun γ v L w hl h => h) (fun γ L a w hH hl h9 k9 => ⟨_, ?_, rfl⟩)) ?_; · simp [Region.binds] at k9; simp [execOp, go_sem, h9, k9])
    exact RV.AllDo.nil
  · intro γ w5 L9 hL hI9 hG9
    have HB9 : Hid (Below _ _ _) := hG9
    clear hG9
    simp only [RV.putL, Act.put, List.setIfInBounds_toArray, List.set_cons_zero, List.set_cons_succ]
    clear hI9 hL
    have Ct : Hid (CW _ _ _) := CW.step (Ct.step HB2.out) HB9.out
    have Cf : Hid (CW _ _ _) := CW.step (Cf.step HB2.out) HB9.out
    have Cr : Hid (CW _ _ _) := CW.step (Cr.step HB2.out) HB9.out
    have HLV : Hid (Leaves ⟨fb, 0, none⟩ W w5) := (HLV.out.step ((b_step HB2.out HB9.out).mono HB.out.size))
    have hc5 := c_after (b_step HB2.out HB9.out) hcV
    have hf5 := f_after (b_step HB2.out HB9.out) hcV hfV
    obtain ⟨hpf, hpt, hpr⟩ := HPX.out
    clear HPX
    have hWr : W.heap.size ≤ pr := by omega
    have nfr : fb ≠ pr := by omega
    clear HB2 HB9 CG LG CB HGT HLE HFR b0 b1 b2 b3 g0 g1 g2 t0 t1 t2 hcV hfV
    obtain ⟨r0, q0⟩ := Cr.out 0 _ rfl
    obtain ⟨r1, q1⟩ := Cr.out 1 _ rfl
    obtain ⟨r2, q2⟩ := Cr.out 2 _ rfl
    have u0 := (Cf.out 0 _ rfl).1
    have u1 := (Cf.out 1 _ rfl).1
    have u2 := (Cf.out 2 _ rfl).1
    have t0 := (Ct.out 0 _ rfl).1
    have t1 := (Ct.out 1 _ rfl).1
    have t2 := (Ct.out 2 _ rfl).1
    have ntr : pt ≠ pr := by omega
    have nrt : pr ≠ pt := by omega
    clear hpf hpt hpr
    by_cases hk : k = 16
    · have e1 := HHV.out
      rw [if_pos hk] at e1
      obtain ⟨e3, e4⟩ := Prod.mk.inj e1
      have e2 : hn = false := by rw [HHN.out, hk]; rfl
      subst hk
      clear e1 HHV HHN HAL
      subst e2 e3 e4
      go_wp2_with (fail)
      refine bodyPost_ret (v := .tuple #[hv1.val, .int .i64 16]) (by simp [results, Tryz.results12, go_sem, r0, r1, r2]; try rfl) rfl ?_
      refine ⟨rfl, (((HLV.out.set hWr _).set hWr _).set hWr _).done ?_ ?_⟩
      · simp [go_sem, hc5]
      · simp [go_sem, hf5]
    · have hk2 : ((k : Int) == 16) = false := beq_eq_false_iff_ne.2 (by omega)
      have e1 := HHV.out
      rw [if_neg hk] at e1
      have e2 : alN f t k = hn := by rw [HHN.out, decide_eq_true hk]; rfl
      have e3 : (if alN f t k then f else alV f t k) = hv1 := by
        have h9 := congrArg Prod.fst e1
        dsimp only at h9
        rw [h9]
        split <;> rfl
      have e4 : (if alN f t k then 0 else (k : Int)) = ((hv2 : Nat) : Int) := by
        have h9 := congrArg Prod.snd e1
        dsimp only at h9
        rw [h9]
        split <;> rfl
      have hA3 := HAL.out k w5 hc5 hf5
      rw [e3, e4, e2] at hA3
      have HA2 : Hid _ := hA3
      clear e1 e2 e3 e4 HHV HHN HAL hA3
      go_wp2_with (fail)
      refine Calls.mono HA2.out ?_
      rintro e V9 ⟨rfl, HA⟩
      have nrf : pr ≠ fb := by omega
      have Cr : Hid (CW _ _ _) := Cr.out.after HA.out nrf
      have HLV : Hid (Leaves ⟨fb, 0, none⟩ W V9) := HLV.out.same HA.out
      have hc9 := HA.out.cell
      have hf9 := HA.out.frozen
      clear HA HA2 r0 q0 r1 q1 r2 q2 u0 u1 u2 t0 t1 t2 hc5 hf5
      obtain ⟨r0, q0⟩ := Cr.out 0 _ rfl
      obtain ⟨r1, q1⟩ := Cr.out 1 _ rfl
      obtain ⟨r2, q2⟩ := Cr.out 2 _ rfl
      go_wp2_with (fail)
      refine bodyPost_ret (v := .tuple #[hv1.val, .int .i64 ((hv2 : Nat) : Int)]) (by simp [results, Tryz.results12, go_sem, r0, r1, r2]; try rfl) rfl ?_
      refine ⟨rfl, (((HLV.out.set hWr _).set hWr _).set hWr _).done ?_ ?_⟩
      · simp [go_sem, hc9]
      · simp [go_sem, hf9]

end Go.Proofs.YtbhdfjoagajipaaGreat
