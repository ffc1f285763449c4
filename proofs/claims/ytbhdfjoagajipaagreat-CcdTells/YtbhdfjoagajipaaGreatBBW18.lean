/- The document's own layer 18: Hold. -/
import Derived.Test.YtbhdfjoagajipaaGreatBBW15
import Derived.Test.YtbhdfjoagajipaaGreatBBW16
import Derived.Test.YtbhdfjoagajipaaGreatBBW17
import Derived.Test.YtbhdfjoagajipaaGreatBBW11
import Derived.Deep.LoopGhost
import Derived.Test.YtbhdfjoagajipaaGreatBBW10
import Derived.Test.YtbhdfjoagajipaaGreatProg
import Derived.Lib.SmallJoins
import Derived.OpenShut
import Derived.Test.YtbhdfjoagajipaaGreatBBW7
import Derived.Deep.Slices
namespace Go.Proofs.YtbhdfjoagajipaaGreat
open Go.RowKit Go.Shelf Fx
set_option linter.unusedVariables false

theorem rnadd_any (b off : Nat) (f : Bool) (x y : Int) (W : World) (hc : W.cell? ⟨b, off, none⟩ = some (.bool f)) (hf : W.frozen? ⟨b, off, none⟩ = false) :
    Calls Tryz.prog 39 #[.pointer (some ⟨b, off, none⟩), .int .i64 x, .int .i64 y] W fun e W' => e = .returned (.int .i64 ((add x y).getD 0)) ∧ Hid (After ⟨b, off, none⟩ (f || (add x y).isNone) W W') :=
  (radd_law b off f x y W hc hf).mono fun e W' h => by
    obtain ⟨v, g, rfl, h1, h2⟩ := h
    obtain ⟨rfl, rfl⟩ := h1.out
    exact ⟨rfl, h2⟩
theorem rnsub_any (b off : Nat) (f : Bool) (x y : Int) (W : World) (hc : W.cell? ⟨b, off, none⟩ = some (.bool f)) (hf : W.frozen? ⟨b, off, none⟩ = false) :
    Calls Tryz.prog 41 #[.pointer (some ⟨b, off, none⟩), .int .i64 x, .int .i64 y] W fun e W' => e = .returned (.int .i64 ((sub x y).getD 0)) ∧ Hid (After ⟨b, off, none⟩ (f || (sub x y).isNone) W W') :=
  (rsub_law b off f x y W hc hf).mono fun e W' h => by
    obtain ⟨v, g, rfl, h1, h2⟩ := h
    obtain ⟨rfl, rfl⟩ := h1.out
    exact ⟨rfl, h2⟩
theorem rnratio_any (b off : Nat) (f : Bool) (x y z : Int) (W : World) (hc : W.cell? ⟨b, off, none⟩ = some (.bool f)) (hf : W.frozen? ⟨b, off, none⟩ = false) :
    Calls Tryz.prog 40 #[.pointer (some ⟨b, off, none⟩), .int .i64 x, .int .i64 y, .int .i64 z] W fun e W' => e = .returned (.int .i64 ((ratio x y z).getD 0)) ∧ Hid (After ⟨b, off, none⟩ (f || (ratio x y z).isNone) W W') :=
  (rratio_law b off f x y z W hc hf).mono fun e W' h => by
    obtain ⟨v, g, rfl, h1, h2⟩ := h
    obtain ⟨rfl, rfl⟩ := h1.out
    exact ⟨rfl, h2⟩
theorem castF_gapM (a : Cr) (w : Pt) (b : Cr) : ∀ (n k : Nat) (x : Pt × Int), 0 ≤ x.2 → 0 ≤ (castF a w b n k x).2.2
  | 0, _, _, h => h
  | n + 1, k, x, h => by
    unfold castF
    split
    · exact h
    · exact castF_gapM a w b n (k + 1) _ (by omega)
theorem cast_gap {a b : Cr} {w : Pt} (h : castB a w b = true) (hk : 0 < (castR a w b).1) : 0 ≤ (castR a w b).2.2 := by
  unfold castR at hk ⊢
  rw [if_pos h] at hk ⊢
  by_cases hg : (apP a b).2 < 0
  · rw [if_pos hg] at hk; simp at hk
  · rw [if_neg hg]; exact castF_gapM a w b 16 0 _ (by omega)
def wayB (f t : V3) (r : Int) : Bool := wayOk f t && ((wayZ f t).inB 4194304 && mayC (ballC f r))
theorem hold_off {f t : V3} {r : Int} {L : List Cr} (h : wayB f t r = false) : hK f t r L = 16 := by
  unfold hK
  refine hold_none fun i hi => ?_
  cases hp : holdP (ballC f r) (wayZ f t) (cr L i) with
  | false => rfl
  | true =>
    exfalso
    unfold holdP at hp
    rw [Bool.and_eq_true] at hp
    obtain ⟨h1, h2, h3⟩ := cast_parts hp.1
    obtain ⟨_, _, h6, h7, _⟩ := go_parts h1
    have h8 := h7 (grn f) (by unfold ballC; simp)
    unfold wayB at h
    rw [h2, h6, Bool.and_true, Bool.and_true] at h
    unfold wayOk at h
    rw [Bool.and_eq_false_iff] at h
    rw [Pt.inB_iff] at h6 h8
    unfold wayZ Pt.sub at h6
    unfold grn at h6 h8
    dsimp only at h6 h8
    rcases h with h | h
    · rw [Bool.eq_false_iff] at h; exact h (by rw [Pt.inB_iff]; dsimp only; omega)
    · rw [Bool.eq_false_iff] at h; exact h (by rw [Pt.inB_iff]; dsimp only; omega)
theorem rway9_any (f t : V3) (r : Int) (W : World) :
    Calls Tryz.prog 38 #[f.val, t.val, .int .i64 r] W fun e W' => ∃ (o : Option Addr) (n c : Nat) (wy : Pt) (rr : Int), e = .returned (.tuple #[.agg #[.slice o n c, .slice none 0 0, .slice none 0 0, .int .i64 rr], .agg #[.int .i64 wy.x, .int .i64 wy.y, .int .i64 wy.z], .bool (wayB f t r)]) ∧ Hid (Below W.heap.size W W' ∧ (wayB f t r = true → wy = wayZ f t ∧ rr = r ∧ Lies W' (.slice o n c) [grn f])) := by
  refine Calls.mono (rway18_any f t r W) ?_
  rintro e W' ⟨hb, h1, h2⟩
  unfold wayB
  cases hok : wayOk f t with
  | false => exact ⟨none, 0, 0, ⟨0, 0, 0⟩, 0, h1 hok, hb, fun h => by cases h⟩
  | true =>
    obtain ⟨g, rfl, hl⟩ := h2 hok
    exact ⟨_, _, _, wayZ f t, r, rfl, hb, fun _ => ⟨rfl, rfl, hl⟩⟩
theorem hold_next (a : Cr) (w : Pt) (L : List Cr) (i : Nat) : holdK a w L (i + 1) = if holdP a w (cr L i) then min (holdK a w L i) (castR a w (cr L i)).1 else holdK a w L i := rfl

set_option maxHeartbeats 16000000 in
set_option maxRecDepth 100000 in
theorem rhold_any (f t : V3) (r : Int) (L : List Cr) (lv : Value) (fb : Nat) (fl : Bool) (W : World) (hl : LiesC W lv L) (hc : W.cell? ⟨fb, 0, none⟩ = some (.bool fl)) (hf : W.frozen? ⟨fb, 0, none⟩ = false) :
    Calls Tryz.prog 13 #[.pointer (some ⟨fb, 0, none⟩), f.val, t.val, .int .i64 r, lv] W fun e W' => e = .returned (.tuple #[(holdV f t r L).1.val, .int .i64 ((holdV f t r L).2 : Nat)]) ∧ Hid (After ⟨fb, 0, none⟩ (fl || holdN f t r L) W W') := by
  have hbW : fb < W.heap.size := World.block_lt_of_cell? _ _ hc
  have HWY : Hid _ := fun w' => rway9_any f t r w'
  have HOFF : Hid (wayB f t r = false → hK f t r L = 16) := hold_off
  have HLC : Hid _ := hl
  have HCS : Hid _ := fun (c : Cr) (pv qv bv fv : Value) (w' : World) (hp : Lies w' pv [grn f]) (hq : Lies w' qv c.P) (hb : Lies w' bv c.A) (hf : Lies w' fv c.E) => rcast_any (ballC f r) (wayZ f t) c pv (.slice none 0 0) (.slice none 0 0) qv bv fv w' hp (lies_nil9 _) (lies_nil9 _) hq hb hf
  have HPG : Hid _ := fun (c : Cr) h1 h2 => cast_gap (a := ballC f r) (b := c) (w := wayZ f t) h1 h2
  have HHV : Hid (holdV f t r L = if hK f t r L = 16 then (t, 16) else if alN f t (hK f t r L) then (f, 0) else (alV f t (hK f t r L), hK f t r L)) := rfl
  have HHN : Hid (holdN f t r L = (decide (hK f t r L ≠ 16) && alN f t (hK f t r L))) := rfl
  have HKE : Hid (holdK (ballC f r) (wayZ f t) L L.length = hK f t r L) := rfl
  rw [show (ballC f r).r = r from rfl] at HCS
  obtain ⟨o, cap, rfl, _⟩ := hl.form
  clear hl
  obtain ⟨⟨hv1, hv2⟩, hhv⟩ : ∃ x, holdV f t r L = x := ⟨_, rfl⟩
  rw [hhv] at HHV ⊢
  clear hhv
  dsimp only at HHV ⊢
  generalize holdN f t r L = hn at *
  generalize hK f t r L = kN at *
  generalize wayB f t r = isb at *
  generalize wayZ f t = wz at *
  generalize ballC f r = BC at *
  generalize grn f = gf at *
  obtain ⟨V, hV⟩ : ∃ V, V = (((W.alloc (.cells #[.int .i64 f.x, .int .i64 f.y, .int .i64 f.z] 27)).alloc (.cells #[.int .i64 t.x, .int .i64 t.y, .int .i64 t.z] 27)).alloc (.cells #[.int .i64 0, .int .i64 0, .int .i64 0] 27)) := ⟨_, rfl⟩
  have hb0 := n_after W (.cells #[.int .i64 f.x, .int .i64 f.y, .int .i64 f.z] 27)
  have hb1 := n_after (W.alloc (.cells #[.int .i64 f.x, .int .i64 f.y, .int .i64 f.z] 27)) (.cells #[.int .i64 t.x, .int .i64 t.y, .int .i64 t.z] 27)
  have hb2 := n_after ((W.alloc (.cells #[.int .i64 f.x, .int .i64 f.y, .int .i64 f.z] 27)).alloc (.cells #[.int .i64 t.x, .int .i64 t.y, .int .i64 t.z] 27)) (.cells #[.int .i64 0, .int .i64 0, .int .i64 0] 27)
  have Cf : CW V (W.heap.size) [.int .i64 f.x, .int .i64 f.y, .int .i64 f.z] := by
    have h9 := ((CW.new W [.int .i64 f.x, .int .i64 f.y, .int .i64 f.z] 27).step hb1).step hb2
    rw [hV]; exact h9
  have Ct : CW V (W.heap.size + 1) [.int .i64 t.x, .int .i64 t.y, .int .i64 t.z] := by
    have h9 := (CW.new (W.alloc (.cells #[.int .i64 f.x, .int .i64 f.y, .int .i64 f.z] 27)) [.int .i64 t.x, .int .i64 t.y, .int .i64 t.z] 27).step hb2
    simp only [World.size_alloc] at h9
    rw [hV]; exact h9
  have Cr : CW V (W.heap.size + 1 + 1) [.int .i64 0, .int .i64 0, .int .i64 0] := by
    have h9 := CW.new ((W.alloc (.cells #[.int .i64 f.x, .int .i64 f.y, .int .i64 f.z] 27)).alloc (.cells #[.int .i64 t.x, .int .i64 t.y, .int .i64 t.z] 27)) [.int .i64 0, .int .i64 0, .int .i64 0] 27
    simp only [World.size_alloc] at h9
    rw [hV]; exact h9
  have hB : Below W.heap.size W V := by rw [hV]; exact (b_step (b_step hb0 hb1) hb2)
  clear hb0 hb1 hb2
  have hcV := c_after hB hc
  have hfV := f_after hB hc hf
  have HLV : Hid (Leaves ⟨fb, 0, none⟩ W V) := (Leaves.refl _ _).step hB
  have HB : Hid _ := hB
  clear hc hf hB
  unfold coreA apV Pt.v at *
  try dsimp only at *
  go_enter Tryz.func13, Tryz.ntmps13
  go_upto_region 1 with fail
  rw [← hV]
  clear hV
  obtain ⟨pr, hpr⟩ : ∃ p, p = W.heap.size + 1 + 1 := ⟨_, rfl⟩
  obtain ⟨pt, hpt⟩ : ∃ p, p = W.heap.size + 1 := ⟨_, rfl⟩
  obtain ⟨pf, hpf⟩ : ∃ p, p = W.heap.size := ⟨_, rfl⟩
  rw [← hpr] at Cr
  rw [← hpt] at Ct
  rw [← hpf] at Cf
  rw [← hpr, ← hpt, ← hpf]
  have HPX : Hid (pf = W.heap.size ∧ pt = W.heap.size + 1 ∧ pr = W.heap.size + 1 + 1) := ⟨hpf, hpt, hpr⟩
  clear hpf hpt hpr
  have f0 := (Cf 0 _ rfl).1
  have t0 := (Ct 0 _ rfl).1
  have f1 := (Cf 1 _ rfl).1
  have t1 := (Ct 1 _ rfl).1
  have f2 := (Cf 2 _ rfl).1
  have t2 := (Ct 2 _ rfl).1
  go_wp2_with (fail)
  refine Calls.mono (HWY.out _) ?_
  rintro e V1 ⟨so, sn, sc, ⟨wx, wq, wz'⟩, rr, rfl, hw⟩
  try dsimp only at hw
  obtain ⟨V2a, hV2a⟩ : ∃ X, X = V1.alloc (.cells #[.slice so sn sc, .slice none 0 0, .slice none 0 0, .int .i64 rr] 35) := ⟨_, rfl⟩
  obtain ⟨V2, hV2⟩ : ∃ X, X = V2a.alloc (.cells #[.int .i64 wx, .int .i64 wq, .int .i64 wz'] 23) := ⟨_, rfl⟩
  obtain ⟨cb, hcb⟩ : ∃ x, x = V1.heap.size := ⟨_, rfl⟩
  obtain ⟨yb, hyb⟩ : ∃ x, x = V1.heap.size + 1 := ⟨_, rfl⟩
  have k1 : Below V1.heap.size V1 V2a := by rw [hV2a]; exact n_after _ _
  have k2 : Below V2a.heap.size V2a V2 := by rw [hV2]; exact n_after _ _
  have CB : Hid (CW V2 cb [.slice so sn sc, .slice none 0 0, .slice none 0 0, .int .i64 rr]) := by show CW _ _ _; rw [hcb]; refine CW.step ?_ k2; rw [hV2a]; exact CW.new V1 [.slice so sn sc, .slice none 0 0, .slice none 0 0, .int .i64 rr] 35
  have CY : Hid (CW V2 yb [.int .i64 wx, .int .i64 wq, .int .i64 wz']) := by
    show CW _ _ _
    have hz : V2a.heap.size = V1.heap.size + 1 := by rw [hV2a, World.size_alloc]
    rw [hV2, hyb, ← hz]
    exact CW.new V2a [.int .i64 wx, .int .i64 wq, .int .i64 wz'] 23
  have hb12 : Below V1.heap.size V1 V2 := b_step k1 k2
  have HB2 : Hid (Below V.heap.size V V2) := b_step hw.out.1 hb12
  have HW2 : Hid (isb = true → (⟨wx, wq, wz'⟩ : Pt) = wz ∧ rr = r ∧ Lies V2 (.slice so sn sc) [gf]) := fun h => by
    obtain ⟨h1, h2, h3⟩ := hw.out.2 h
    exact ⟨h1, h2, h3.below hb12⟩
  clear k1 k2 hb12 hw HWY f0 f1 f2 t0 t1 t2
  go_upto_region 2 with fail
  rw [← hyb, ← hcb, ← hV2a, ← hV2]
  clear hV2a hcb hV2 hyb
  have Ct : Hid (CW _ _ _) := CW.step Ct HB2.out
  have Cf : Hid (CW _ _ _) := CW.step Cf HB2.out
  have Cr : Hid (CW _ _ _) := CW.step Cr HB2.out
  have HLV : Hid (Leaves ⟨fb, 0, none⟩ W V2) := HLV.out.step (HB2.out.mono HB.out.size)
  have HFC : Hid (V2.cell? ⟨fb, 0, none⟩ = some (.bool fl)) := c_after HB2.out hcV
  have HFF : Hid (V2.frozen? ⟨fb, 0, none⟩ = false) := f_after HB2.out hcV hfV
  have HWV2 : Hid (Below W.heap.size W V2) := b_step HB.out HB2.out
  have HN1 : Hid (W.heap.size ≤ pf ∧ W.heap.size ≤ pt ∧ W.heap.size ≤ pr ∧ pf < V2.heap.size ∧ pt < V2.heap.size ∧ pr < V2.heap.size ∧ fb ≠ pf ∧ fb ≠ pt ∧ fb ≠ pr ∧ pf ≠ pr ∧ pt ≠ pr) := by
    obtain ⟨h1, h2, h3⟩ := HPX.out
    have h4 := CW.lt Cr.out
    show _ ∧ _
    omega
  clear HB HB2 HPX hcV hfV hbW
  cases isb with
  | false =>
    have hk : kN = 16 := HOFF.out rfl
    obtain ⟨r0, q0⟩ := Cr.out 0 _ rfl
    obtain ⟨r1, q1⟩ := Cr.out 1 _ rfl
    obtain ⟨r2, q2⟩ := Cr.out 2 _ rfl
    have t0 := (Ct.out 0 _ rfl).1
    have t1 := (Ct.out 1 _ rfl).1
    have t2 := (Ct.out 2 _ rfl).1
    have hfc := HFC.out
    have hff := HFF.out
    obtain ⟨hWf, hWt, hWr, _, _, _, nff, nft, nfr, nfpr, ntr⟩ := HN1.out
    have e1 := HHV.out
    rw [hk, if_pos rfl] at e1
    obtain ⟨e3, e4⟩ := Prod.mk.inj e1
    have e2 : hn = false := by rw [HHN.out, hk]; rfl
    clear e1 HHV HHN HKE HCS HPG HW2 HLC
    subst e2 e3 e4
    go_wp2_with (fail)
    refine bodyPost_ret (v := .tuple #[hv1.val, .int .i64 16]) (by simp [results, Tryz.results13, go_sem, r0, r1, r2]; try rfl) rfl ?_
    refine ⟨rfl, (((HLV.out.set hWr _).set hWr _).set hWr _).done ?_ ?_⟩
    · simp [go_sem, hfc]
    · simp [go_sem, hff]
  | true =>
    obtain ⟨h1, h2, h3⟩ := HW2.out rfl
    have HLS : Hid _ := h3
    clear HW2 HOFF h3
    subst h1 h2
    have HW2 := 0
    go_upto_region 6 with fail
    go_loopg [16, 15] L.length (fun gm s16 s15 wr => ∃ (i k : Nat), s16 = .int .i64 (i : Int) ∧ s15 = .int .i64 (k : Int) ∧ i ≤ L.length ∧ Hid (gm = L.length - i) ∧ Hid (Below V2.heap.size V2 wr) ∧ Hid (k = holdK BC ⟨wx, wq, wz'⟩ L i))
    case atStart => exact ⟨0, 16, rfl, rfl, Nat.zero_le _, rfl, Below.refl _ _, rfl⟩
    case round =>
      obtain ⟨i, k, rfl, rfl, hi9, HG, HBL, HE⟩ := hrel
      by_cases hit : i < L.length
      · have hl1 : (i : Int) < (L.length : Int) := by omega
        obtain ⟨o', cap', e', _, _, hcl⟩ := ((HLC.out.below HWV2.out).below HBL.out).form
        cases e'
        obtain ⟨lb, lo, qv, bv, fv, rfl, x0, x1, x2, x3, l1, l2, l3⟩ := hcl i hit
        clear hcl
        have HSK : Hid _ := hold_next BC ⟨wx, wq, wz'⟩ L i
        obtain ⟨c, hc⟩ : ∃ x, cr L i = x := ⟨_, rfl⟩
        rw [hc] at x3 l1 l2 l3 HSK
        clear hc
        obtain ⟨o4, c4, rfl, _⟩ := l1.form
        obtain ⟨o5, c5, rfl, _⟩ := l2.form
        obtain ⟨o6, c6, rfl, _⟩ := l3.form
        have HCC : Hid _ := fun (w' : World) (h : Below wr.heap.size wr w') => HCS.out c (.slice so sn sc) _ _ _ w' ((HLS.out.below HBL.out).below h) (l1.below h) (l2.below h) (l3.below h)
        have HPC : Hid _ := HPG.out c
        rw [← HE.out] at HSK
        unfold holdP at HSK
        clear l1 l2 l3 HE
        generalize castB BC ⟨wx, wq, wz'⟩ c = ck at *
        obtain ⟨⟨m, ⟨xx, xy, xz⟩, xg⟩, hx⟩ : ∃ x, castR BC ⟨wx, wq, wz'⟩ c = x := ⟨_, rfl⟩
        rw [hx] at HCC HSK HPC
        dsimp only at HCC HSK HPC
        clear hx
        have b0 := (CB.out.step HBL.out 0 _ rfl).1
        have b1 := (CB.out.step HBL.out 1 _ rfl).1
        have b2 := (CB.out.step HBL.out 2 _ rfl).1
        have b3 := (CB.out.step HBL.out 3 _ rfl).1
        have y0 := (CY.out.step HBL.out 0 _ rfl).1
        have y1 := (CY.out.step HBL.out 1 _ rfl).1
        have y2 := (CY.out.step HBL.out 2 _ rfl).1
        go_upto_region 8 with fail
        refine RV.rs [.some (.agg #[.slice so sn sc, .slice none 0 0, .slice none 0 0, .int .i64 rr]), .some (.agg #[.int .i64 (wx), .int .i64 (wq), .int .i64 (wz')]), .some (.slice (some ⟨lb, lo, none⟩) L.length cap), .some (.int .i64 ((i : Int))), .some (.pointer (some ⟨lb, lo + i * 4, none⟩)), .some (.agg #[.slice o4 c.P.length c4, .slice o5 c.A.length c5, .slice o6 c.E.length c6, .int .i64 c.r]), .some (.tuple #[.int .i64 ((m : Nat) : Int), .agg #[.int .i64 xx, .int .i64 xy, .int .i64 xz, .int .i64 xg], .bool ck]), .some (.tuple #[.int .i64 ((m : Nat) : Int), .agg #[.int .i64 xx, .int .i64 xy, .int .i64 xz, .int .i64 xg], .bool ck]), .some (.int .i64 ((m : Nat) : Int)), .some (.agg #[.int .i64 xx, .int .i64 xy, .int .i64 xz, .int .i64 xg]), .some (.bool (ck)), none, .some (.int .i64 ((m : Nat) : Int)), none, .some (.bool (ck))] [41, 42, 43, 44, 45, 46, 47, 40, 48, 49, 50, 19, 18, 0, 20] [(4, .slice (some ⟨lb, lo, none⟩) L.length cap), (12, .pointer (some ⟨cb, 0, none⟩)), (13, .pointer (some ⟨yb, 0, none⟩)), (16, .int .i64 ((i : Int)))] (fun γ L w => NB wr 71 11 13 #[.int .i64 xx, .int .i64 xy, .int .i64 xz, .int .i64 xg] γ L w) ⟨rfl, rfl, rfl, rfl, trivial⟩ NB.start ?_ ?_
        · intro D WA Z hD hWA hZ T
          simp only [RV.Outs, RV.Slots, Nat.reduceAdd] at T
          (refine RV.AllDo.cons _ (RV.pu T (fun γ v L w hl h => h.other _ (by decide) (by decide)) (fun γ L a w hH hl h9 k9 => ⟨_, ?_, rfl⟩)) ?_; · have q0 := c_after hH.glob.below b0; have q1 := c_after hH.glob.below b1; have q2 := c_after hH.glob.below b2; have q3 := c_after hH.glob.below b3; simp [execOp, go_sem, h9, q0, q1, q2, q3])
          (refine RV.AllDo.cons _ (RV.pu T (fun γ v L w hl h => h.other _ (by decide) (by decide)) (fun γ L a w hH hl h9 k9 => ⟨_, ?_, rfl⟩)) ?_; · have q0 := c_after hH.glob.below y0; have q1 := c_after hH.glob.below y1; have q2 := c_after hH.glob.below y2; simp [execOp, go_sem, h9, q0, q1, q2])
          iterate 2 (refine RV.AllDo.cons _ (RV.pu T (fun γ v L w hl h => h.other _ (by decide) (by decide)) (fun γ L a w hH hl h9 k9 => ⟨_, ?_, rfl⟩)) ?_; · simp [execOp, go_sem, h9])
          (refine RV.AllDo.cons _ (RV.pu T (fun γ v L w hl h => h.other _ (by decide) (by decide)) (fun γ L a w hH hl h9 k9 => ⟨_, ?_, rfl⟩)) ?_; · simp [Region.binds] at k9; simp [execOp, go_sem, h9, k9, hl1])
          (refine RV.AllDo.cons _ (RV.pu T (fun γ v L w hl h => h.other _ (by decide) (by decide)) (fun γ L a w hH hl h9 k9 => ⟨_, ?_, rfl⟩)) ?_; · have x09 := c_after hH.glob.below x0; have x19 := c_after hH.glob.below x1; have x29 := c_after hH.glob.below x2; have x39 := c_after hH.glob.below x3; simp [Region.binds] at k9; simp [execOp, go_sem, h9, k9, x09, x19, x29, x39])
          refine RV.AllDo.cons _ (RV.does_call (fun γ L a w hH hl hA => by have h9 := T γ L a w hH; have k9 := hA; simp [Region.binds] at k9; exact ⟨_, _, by simp [go_sem, h9, k9], Calls.mono (HCC.out w hH.glob.below) (by rintro e w2 ⟨rfl, ha⟩; exact ⟨_, rfl, rfl, fun j v _ h => h.keep _, hH.glob.come _ ha (by decide) (by decide)⟩)⟩)) ?_
          iterate 4 (refine RV.AllDo.cons _ (RV.pu T (fun γ v L w hl h => h.other _ (by decide) (by decide)) (fun γ L a w hH hl h9 k9 => ⟨_, ?_, rfl⟩)) ?_; · simp [Region.binds] at k9; simp [execOp, go_sem, h9, k9])
          refine RV.AllDo.cons _ (RV.does_step (fun γ L a w hH hl hA => ⟨.pointer (some ⟨w.heap.size, 0, none⟩), w.alloc (.cells #[.int .i64 0, .int .i64 0, .int .i64 0, .int .i64 0] 71), by simp [execOp, go_sem], trivial, fun j v _ h => h.keep _, hH.glob.made #[.int .i64 0, .int .i64 0, .int .i64 0, .int .i64 0] rfl (RV.not_yet hH (RV.wt (j := 13) (i := 11) hWA (by kernel_rfl)) hl) (by decide)⟩)) ?_
          (refine RV.AllDo.cons _ (RV.pu T (fun γ v L w hl h => h.other _ (by decide) (by decide)) (fun γ L a w hH hl h9 k9 => ⟨_, ?_, rfl⟩)) ?_; · simp [Region.binds] at k9; simp [execOp, go_sem, h9, k9])
          refine RV.AllDo.cons _ (RV.does_store (fun γ L a w hH hl hA => by have h9 := T γ L a w hH; have k9 := hA; simp [Region.binds] at k9; have l0 : L 11 = true := hA ⟨11, .data⟩ (by simp) rfl; have e0 := hH.slot 11 18 (by rw [← hD]; rfl) l0; obtain ⟨b, hb1, hb2, hb3, hb4⟩ := hH.glob.spot l0; rw [hb1] at e0; exact ⟨_, exec_store_all 71 _ _ rfl b 0 _ (by simp [Act.eval, e0]) (by simp [Act.eval, h9, k9]) hb3 (by kernel_rfl) (by simp only [List.all_toArray, List.all_cons, List.all_nil, Value.oneCell', Bool.and_self]), trivial, fun j v _ h => h.keep _, hb4 (by decide) _⟩)) ?_
          (refine RV.AllDo.cons _ (RV.pu T (fun γ v L w hl h => h.other _ (by decide) (by decide)) (fun γ L a w hH hl h9 k9 => ⟨_, ?_, rfl⟩)) ?_; · simp [Region.binds] at k9; simp [execOp, go_sem, h9, k9])
          exact RV.AllDo.nil
        · intro γ w5 L9 hL hI9 hG9
          obtain ⟨hB9, nb, e9, hnb, Cnb⟩ := hG9.done (hL 11 (by decide)) (hL 13 (by decide))
          have HB9 : Hid (Below _ _ _) := hB9
          clear hG9 hB9
          simp only [RV.putL, Act.put, List.setIfInBounds_toArray, List.set_cons_zero, List.set_cons_succ, Nat.reduceAdd]
          rw [e9]
          have Cnb : Hid (CW _ _ _) := Cnb
          clear e9
          clear hI9 hL
          have HBa : Hid (Below wr.heap.size wr w5) := HB9.out
          have CN : Hid (CW _ _ _) := Cnb
          clear HB9 hnb Cnb b0 b1 b2 b3 y0 y1 y2 x0 x1 x2 x3 HCC
          have HBL : Hid _ := b_step HBL.out HBa.out
          clear HBa
          have n3 := (CN.out 3 _ rfl).1
          clear CN
          cases ck with
          | false =>
            have HE2 : Hid (k = holdK BC ⟨wx, wq, wz'⟩ L (i + 1)) := by show _ = _; rw [HSK.out, Bool.false_and, if_neg (by decide)]
            clear HSK HPC
            go_wp2_with (fail)
            go_roundg (L.length - (i + 1))
            case measure => have := HG.out; omega
            case rel => exact ⟨i + 1, k, by go_num, rfl, by omega, rfl, HBL, HE2⟩
          | true =>
            by_cases hg : 0 ≤ xg
            · have HE2 : Hid (min k m = holdK BC ⟨wx, wq, wz'⟩ L (i + 1)) := by show _ = _; rw [HSK.out, decide_eq_true hg]; rfl
              clear HSK HPC
              obtain ⟨mn, hmn⟩ : ∃ x : Nat, x = min k m := ⟨_, rfl⟩
              rw [← hmn] at HE2
              by_cases hlt : m < k
              · obtain rfl : m = mn := by omega
                have h1 : (m : Int) < (k : Int) := by omega
                have h2 : ¬ (k : Int) < (m : Int) := by omega
                clear hmn hlt
                by_cases hm0 : 0 < m
                · have hm1 : (0 : Int) < (m : Int) := by omega
                  go_wp2_with (fail)
                  go_roundg (L.length - (i + 1))
                  case measure => have := HG.out; omega
                  case rel => exact ⟨i + 1, m, by go_num, rfl, by omega, rfl, HBL, HE2⟩
                · obtain rfl : m = 0 := by omega
                  go_wp2_with (fail)
                  go_roundg (L.length - (i + 1))
                  case measure => have := HG.out; omega
                  case rel => exact ⟨i + 1, 0, by go_num, rfl, by omega, rfl, HBL, HE2⟩
              · obtain rfl : k = mn := by omega
                have h1 : ¬ (m : Int) < (k : Int) := by omega
                by_cases heq : k = m
                · subst heq
                  clear hmn hlt
                  by_cases hm0 : 0 < k
                  · have hm1 : (0 : Int) < (k : Int) := by omega
                    go_wp2_with (fail)
                    go_roundg (L.length - (i + 1))
                    case measure => have := HG.out; omega
                    case rel => exact ⟨i + 1, k, by go_num, rfl, by omega, rfl, HBL, HE2⟩
                  · obtain rfl : k = 0 := by omega
                    go_wp2_with (fail)
                    go_roundg (L.length - (i + 1))
                    case measure => have := HG.out; omega
                    case rel => exact ⟨i + 1, 0, by go_num, rfl, by omega, rfl, HBL, HE2⟩
                · have h2 : (k : Int) < (m : Int) := by omega
                  have hm1 : (0 : Int) < (m : Int) := by omega
                  clear hmn hlt heq
                  go_wp2_with (fail)
                  go_roundg (L.length - (i + 1))
                  case measure => have := HG.out; omega
                  case rel => exact ⟨i + 1, k, by go_num, rfl, by omega, rfl, HBL, HE2⟩
            · have hm0 : m = 0 := by rcases Nat.eq_zero_or_pos m with h | h; exact h; exact absurd (HPC.out rfl h) hg
              subst hm0
              have HE2 : Hid (k = holdK BC ⟨wx, wq, wz'⟩ L (i + 1)) := by show _ = _; rw [HSK.out, decide_eq_false hg, Bool.and_false, if_neg (by decide)]
              clear HSK HPC
              go_wp2_with (fail)
              go_roundg (L.length - (i + 1))
              case measure => have := HG.out; omega
              case rel => exact ⟨i + 1, k, by go_num, rfl, by omega, rfl, HBL, HE2⟩

      · obtain rfl : i = L.length := by omega
        have hkn : k = kN := by rw [HE.out, HKE.out]
        clear HE HKE HG hit
        have hbb := HBL.out
        have Ct : Hid (CW _ _ _) := Ct.out.step hbb
        have Cf : Hid (CW _ _ _) := Cf.out.step hbb
        have Cr : Hid (CW _ _ _) := Cr.out.step hbb
        have HFF : Hid (wr.frozen? ⟨fb, 0, none⟩ = false) := f_after hbb HFC.out HFF.out
        have HFC : Hid (wr.cell? ⟨fb, 0, none⟩ = some (.bool fl)) := c_after hbb HFC.out
        have HLV : Hid (Leaves ⟨fb, 0, none⟩ W wr) := HLV.out.step (hbb.mono HWV2.out.size)
        obtain ⟨hWf, hWt, hWr, l1, l2, l3, nff, nft, nfr, nfpr, ntr⟩ := HN1.out
        have hs9 := hbb.size
        have hs8 := HWV2.out.size
        have hfbl : fb < wr.heap.size := World.block_lt_of_cell? _ _ HFC.out
        clear hbb HBL HN1 CB CY HLS HLC HCS HPG HW2
        subst hkn
        by_cases hk : k = 16
        · have e1 := HHV.out
          rw [if_pos hk] at e1
          obtain ⟨e3, e4⟩ := Prod.mk.inj e1
          have e2 : hn = false := by rw [HHN.out, hk]; rfl
          clear e1 HHV HHN
          subst hk e2 e3 e4
          obtain ⟨r0, q0⟩ := Cr.out 0 _ rfl
          obtain ⟨r1, q1⟩ := Cr.out 1 _ rfl
          obtain ⟨r2, q2⟩ := Cr.out 2 _ rfl
          have t0 := (Ct.out 0 _ rfl).1
          have t1 := (Ct.out 1 _ rfl).1
          have t2 := (Ct.out 2 _ rfl).1
          have hfc := HFC.out
          have hff := HFF.out
          go_wp2_with (fail)
          refine bodyPost_ret (v := .tuple #[hv1.val, .int .i64 16]) (by simp [results, Tryz.results13, go_sem, r0, r1, r2]; try rfl) rfl ?_
          refine ⟨rfl, (((HLV.out.set hWr _).set hWr _).set hWr _).done ?_ ?_⟩
          · simp [go_sem, hfc]
          · simp [go_sem, hff]
        · have hk2 : ((k : Int) == 16) = false := beq_eq_false_iff_ne.2 (by omega)
          have e1 := HHV.out
          rw [if_neg hk] at e1
          obtain ⟨kz, hkz⟩ : ∃ z : Int, z = (k : Int) := ⟨_, rfl⟩
          rw [← hkz] at e1
          obtain ⟨bd, hbd⟩ : ∃ v, v = alN f t kz := ⟨_, rfl⟩
          have e2 : bd = hn := by rw [HHN.out, decide_eq_true hk, hbd, hkz]; rfl
          rw [← hbd] at e1
          have HAV : Hid (hv1 = if bd then f else alV f t kz) := by have h9 := congrArg Prod.fst e1; dsimp only at h9; show _ = _; rw [h9]; split <;> rfl
          have HAK : Hid (hv2 = if bd then 0 else k) := by have h9 := congrArg Prod.snd e1; dsimp only at h9; show _ = _; rw [h9]; split <;> rfl
          have HBD : Hid _ := hbd
          subst e2
          clear e1 HHV HHN hbd
          rw [← hkz] at hk2
          obtain ⟨X, hX⟩ : ∃ V, V = wr.alloc (.cells #[.bool false] 48) := ⟨_, rfl⟩
          obtain ⟨wb, hwb⟩ : ∃ b, b = wr.heap.size := ⟨_, rfl⟩
          have kb : Below wr.heap.size wr X := by rw [hX]; exact n_after _ _
          have co : CW X wb [.bool false] := by rw [hX, hwb]; exact CW.new wr [.bool false] 48
          have hXs : X.heap.size = wr.heap.size + 1 := by rw [hX, World.size_alloc]
          go_upto_region 14 with fail
          rw [← hkz, ← hX, ← hwb]
          have Ct : Hid (CW _ _ _) := Ct.out.step kb
          have Cf : Hid (CW _ _ _) := Cf.out.step kb
          have Cr : Hid (CW _ _ _) := Cr.out.step kb
          have HFF : Hid (X.frozen? ⟨fb, 0, none⟩ = false) := f_after kb HFC.out HFF.out
          have HFC : Hid (X.cell? ⟨fb, 0, none⟩ = some (.bool fl)) := c_after kb HFC.out
          have HLV : Hid (Leaves ⟨fb, 0, none⟩ W X) := HLV.out.step (kb.mono (by omega))
          have nf9 : pf ≠ wb := by omega
          have nt9 : pt ≠ wb := by omega
          have nr9 : pr ≠ wb := by omega
          have no9 : fb ≠ wb := by omega
          have hWo : W.heap.size ≤ wb := by omega
          have prX : pr < X.heap.size := by omega
          obtain ⟨o0, of0⟩ := co 0 _ rfl
          have f0 := (Cf.out 0 _ rfl).1
          have t0 := (Ct.out 0 _ rfl).1
          have f1 := (Cf.out 1 _ rfl).1
          have t1 := (Ct.out 1 _ rfl).1
          have f2 := (Cf.out 2 _ rfl).1
          have t2 := (Ct.out 2 _ rfl).1
          clear hX hwb kb co hXs hk2
          refine RV.rs [.some (.pointer (some ⟨wb, 0, none⟩)), .some (.pointer (some ⟨pf, 0, none⟩)), .some (.int .i64 (f.x)), .some (.pointer (some ⟨wb, 0, none⟩)), .some (.pointer (some ⟨wb, 0, none⟩)), .some (.pointer (some ⟨pt, 0, none⟩)), .some (.int .i64 (t.x)), .some (.pointer (some ⟨pf, 0, none⟩)), .some (.int .i64 (f.x)), .some (.int .i64 ((sub t.x f.x).getD 0)), .some (.int .i64 (kz)), .some (.int .i64 ((goR f.x t.x kz).getD 0)), .some (.int .i64 (goZ f.x t.x kz)), .some (.pointer (some ⟨wb, 0, none⟩)), .some (.pointer (some ⟨pf, 1, none⟩)), .some (.int .i64 (f.y)), .some (.pointer (some ⟨wb, 0, none⟩)), .some (.pointer (some ⟨wb, 0, none⟩)), .some (.pointer (some ⟨pt, 1, none⟩)), .some (.int .i64 (t.y)), .some (.pointer (some ⟨pf, 1, none⟩)), .some (.int .i64 (f.y)), .some (.int .i64 ((sub t.y f.y).getD 0)), .some (.int .i64 (kz)), .some (.int .i64 ((goR f.y t.y kz).getD 0)), .some (.int .i64 (goZ f.y t.y kz)), .some (.pointer (some ⟨wb, 0, none⟩)), .some (.pointer (some ⟨pf, 2, none⟩)), .some (.int .i64 (f.z)), .some (.pointer (some ⟨wb, 0, none⟩)), .some (.pointer (some ⟨wb, 0, none⟩)), .some (.pointer (some ⟨pt, 2, none⟩)), .some (.int .i64 (t.z)), .some (.pointer (some ⟨pf, 2, none⟩)), .some (.int .i64 (f.z)), .some (.int .i64 ((sub t.z f.z).getD 0)), .some (.int .i64 (kz)), .some (.int .i64 ((goR f.z t.z kz).getD 0)), .some (.int .i64 (goZ f.z t.z kz)), .some (.agg #[.int .i64 (goZ f.x t.x kz), .int .i64 (goZ f.y t.y kz), .int .i64 (goZ f.z t.z kz)]), none, none] [69, 70, 71, 72, 73, 74, 75, 76, 77, 78, 79, 80, 81, 82, 83, 84, 85, 86, 87, 88, 89, 90, 91, 92, 93, 94, 95, 96, 97, 98, 99, 100, 101, 102, 103, 104, 105, 106, 107, 108, 22, 0] [(6, .pointer (some ⟨pf, 0, none⟩)), (7, .pointer (some ⟨pt, 0, none⟩)), (15, .int .i64 (kz)), (20, .pointer (some ⟨wb, 0, none⟩))] (fun γ L w => NG X ⟨wb, 0, none⟩ false [(9, (sub t.x f.x).isNone), (11, (goR f.x t.x kz).isNone), (12, (goA f.x t.x kz).isNone), (22, (sub t.y f.y).isNone), (24, (goR f.y t.y kz).isNone), (25, (goA f.y t.y kz).isNone), (35, (sub t.z f.z).isNone), (37, (goR f.z t.z kz).isNone), (38, (goA f.z t.z kz).isNone)] 27 40 41 #[.int .i64 (goZ f.x t.x kz), .int .i64 (goZ f.y t.y kz), .int .i64 (goZ f.z t.z kz)] γ L w) ⟨rfl, rfl, rfl, rfl, trivial⟩ (NG.start o0 of0) ?_ ?_
          · intro D WA Z hD hWA hZ T
            simp only [RV.Outs, RV.Slots, Nat.reduceAdd] at T
            iterate 2 (refine RV.AllDo.cons _ (RV.pu T (fun γ v L w hl h => h.other _ rfl (by decide) (by decide)) (fun γ L a w hH hl h9 k9 => ⟨_, ?_, rfl⟩)) ?_; · simp [execOp, go_sem, h9])
            (refine RV.AllDo.cons _ (RV.pu T (fun γ v L w hl h => h.other _ rfl (by decide) (by decide)) (fun γ L a w hH hl h9 k9 => ⟨_, ?_, rfl⟩)) ?_; · have q0 := hH.glob.fg.at f0 nf9; simp [Region.binds] at k9; simp [execOp, go_sem, h9, k9, q0])
            iterate 3 (refine RV.AllDo.cons _ (RV.pu T (fun γ v L w hl h => h.other _ rfl (by decide) (by decide)) (fun γ L a w hH hl h9 k9 => ⟨_, ?_, rfl⟩)) ?_; · simp [execOp, go_sem, h9])
            (refine RV.AllDo.cons _ (RV.pu T (fun γ v L w hl h => h.other _ rfl (by decide) (by decide)) (fun γ L a w hH hl h9 k9 => ⟨_, ?_, rfl⟩)) ?_; · have q0 := hH.glob.fg.at t0 nt9; simp [Region.binds] at k9; simp [execOp, go_sem, h9, k9, q0])
            (refine RV.AllDo.cons _ (RV.pu T (fun γ v L w hl h => h.other _ rfl (by decide) (by decide)) (fun γ L a w hH hl h9 k9 => ⟨_, ?_, rfl⟩)) ?_; · simp [execOp, go_sem, h9])
            (refine RV.AllDo.cons _ (RV.pu T (fun γ v L w hl h => h.other _ rfl (by decide) (by decide)) (fun γ L a w hH hl h9 k9 => ⟨_, ?_, rfl⟩)) ?_; · have q0 := hH.glob.fg.at f0 nf9; simp [Region.binds] at k9; simp [execOp, go_sem, h9, k9, q0])
            refine RV.AllDo.cons _ (RV.does_call (fun γ L a w hH hl hA => by have h9 := T γ L a w hH; have k9 := hA; simp [Region.binds] at k9; exact ⟨_, _, by simp [go_sem, h9, k9], Calls.mono (rnsub_any wb 0 _ t.x f.x w hH.glob.fg.cell hH.glob.fg.frozen) (by rintro e w2 ⟨rfl, ha⟩; exact ⟨_, rfl, rfl, fun j v _ h => h.keep _, hH.glob.come _ hl rfl ha.out (by decide) (by decide)⟩)⟩)) ?_
            (refine RV.AllDo.cons _ (RV.pu T (fun γ v L w hl h => h.other _ rfl (by decide) (by decide)) (fun γ L a w hH hl h9 k9 => ⟨_, ?_, rfl⟩)) ?_; · simp [execOp, go_sem, h9])
            refine RV.AllDo.cons _ (RV.does_call (fun γ L a w hH hl hA => by have h9 := T γ L a w hH; have k9 := hA; simp [Region.binds] at k9; exact ⟨_, _, by simp [go_sem, h9, k9], Calls.mono (rnratio_any wb 0 _ ((sub t.x f.x).getD 0) kz 16 w hH.glob.fg.cell hH.glob.fg.frozen) (by rintro e w2 ⟨rfl, ha⟩; exact ⟨_, rfl, rfl, fun j v _ h => h.keep _, hH.glob.come _ hl rfl ha.out (by decide) (by decide)⟩)⟩)) ?_
            refine RV.AllDo.cons _ (RV.does_call (fun γ L a w hH hl hA => by have h9 := T γ L a w hH; have k9 := hA; simp [Region.binds] at k9; exact ⟨_, _, by simp [go_sem, h9, k9], Calls.mono (rnadd_any wb 0 _ f.x ((goR f.x t.x kz).getD 0) w hH.glob.fg.cell hH.glob.fg.frozen) (by rintro e w2 ⟨rfl, ha⟩; exact ⟨_, rfl, rfl, fun j v _ h => h.keep _, hH.glob.come _ hl rfl ha.out (by decide) (by decide)⟩)⟩)) ?_
            iterate 2 (refine RV.AllDo.cons _ (RV.pu T (fun γ v L w hl h => h.other _ rfl (by decide) (by decide)) (fun γ L a w hH hl h9 k9 => ⟨_, ?_, rfl⟩)) ?_; · simp [execOp, go_sem, h9])
            (refine RV.AllDo.cons _ (RV.pu T (fun γ v L w hl h => h.other _ rfl (by decide) (by decide)) (fun γ L a w hH hl h9 k9 => ⟨_, ?_, rfl⟩)) ?_; · have q0 := hH.glob.fg.at f1 nf9; simp [Region.binds] at k9; simp [execOp, go_sem, h9, k9, q0])
            iterate 3 (refine RV.AllDo.cons _ (RV.pu T (fun γ v L w hl h => h.other _ rfl (by decide) (by decide)) (fun γ L a w hH hl h9 k9 => ⟨_, ?_, rfl⟩)) ?_; · simp [execOp, go_sem, h9])
            (refine RV.AllDo.cons _ (RV.pu T (fun γ v L w hl h => h.other _ rfl (by decide) (by decide)) (fun γ L a w hH hl h9 k9 => ⟨_, ?_, rfl⟩)) ?_; · have q0 := hH.glob.fg.at t1 nt9; simp [Region.binds] at k9; simp [execOp, go_sem, h9, k9, q0])
            (refine RV.AllDo.cons _ (RV.pu T (fun γ v L w hl h => h.other _ rfl (by decide) (by decide)) (fun γ L a w hH hl h9 k9 => ⟨_, ?_, rfl⟩)) ?_; · simp [execOp, go_sem, h9])
            (refine RV.AllDo.cons _ (RV.pu T (fun γ v L w hl h => h.other _ rfl (by decide) (by decide)) (fun γ L a w hH hl h9 k9 => ⟨_, ?_, rfl⟩)) ?_; · have q0 := hH.glob.fg.at f1 nf9; simp [Region.binds] at k9; simp [execOp, go_sem, h9, k9, q0])
            refine RV.AllDo.cons _ (RV.does_call (fun γ L a w hH hl hA => by have h9 := T γ L a w hH; have k9 := hA; simp [Region.binds] at k9; exact ⟨_, _, by simp [go_sem, h9, k9], Calls.mono (rnsub_any wb 0 _ t.y f.y w hH.glob.fg.cell hH.glob.fg.frozen) (by rintro e w2 ⟨rfl, ha⟩; exact ⟨_, rfl, rfl, fun j v _ h => h.keep _, hH.glob.come _ hl rfl ha.out (by decide) (by decide)⟩)⟩)) ?_
            (refine RV.AllDo.cons _ (RV.pu T (fun γ v L w hl h => h.other _ rfl (by decide) (by decide)) (fun γ L a w hH hl h9 k9 => ⟨_, ?_, rfl⟩)) ?_; · simp [execOp, go_sem, h9])
            refine RV.AllDo.cons _ (RV.does_call (fun γ L a w hH hl hA => by have h9 := T γ L a w hH; have k9 := hA; simp [Region.binds] at k9; exact ⟨_, _, by simp [go_sem, h9, k9], Calls.mono (rnratio_any wb 0 _ ((sub t.y f.y).getD 0) kz 16 w hH.glob.fg.cell hH.glob.fg.frozen) (by rintro e w2 ⟨rfl, ha⟩; exact ⟨_, rfl, rfl, fun j v _ h => h.keep _, hH.glob.come _ hl rfl ha.out (by decide) (by decide)⟩)⟩)) ?_
            refine RV.AllDo.cons _ (RV.does_call (fun γ L a w hH hl hA => by have h9 := T γ L a w hH; have k9 := hA; simp [Region.binds] at k9; exact ⟨_, _, by simp [go_sem, h9, k9], Calls.mono (rnadd_any wb 0 _ f.y ((goR f.y t.y kz).getD 0) w hH.glob.fg.cell hH.glob.fg.frozen) (by rintro e w2 ⟨rfl, ha⟩; exact ⟨_, rfl, rfl, fun j v _ h => h.keep _, hH.glob.come _ hl rfl ha.out (by decide) (by decide)⟩)⟩)) ?_
            iterate 2 (refine RV.AllDo.cons _ (RV.pu T (fun γ v L w hl h => h.other _ rfl (by decide) (by decide)) (fun γ L a w hH hl h9 k9 => ⟨_, ?_, rfl⟩)) ?_; · simp [execOp, go_sem, h9])
            (refine RV.AllDo.cons _ (RV.pu T (fun γ v L w hl h => h.other _ rfl (by decide) (by decide)) (fun γ L a w hH hl h9 k9 => ⟨_, ?_, rfl⟩)) ?_; · have q0 := hH.glob.fg.at f2 nf9; simp [Region.binds] at k9; simp [execOp, go_sem, h9, k9, q0])
            iterate 3 (refine RV.AllDo.cons _ (RV.pu T (fun γ v L w hl h => h.other _ rfl (by decide) (by decide)) (fun γ L a w hH hl h9 k9 => ⟨_, ?_, rfl⟩)) ?_; · simp [execOp, go_sem, h9])
            (refine RV.AllDo.cons _ (RV.pu T (fun γ v L w hl h => h.other _ rfl (by decide) (by decide)) (fun γ L a w hH hl h9 k9 => ⟨_, ?_, rfl⟩)) ?_; · have q0 := hH.glob.fg.at t2 nt9; simp [Region.binds] at k9; simp [execOp, go_sem, h9, k9, q0])
            (refine RV.AllDo.cons _ (RV.pu T (fun γ v L w hl h => h.other _ rfl (by decide) (by decide)) (fun γ L a w hH hl h9 k9 => ⟨_, ?_, rfl⟩)) ?_; · simp [execOp, go_sem, h9])
            (refine RV.AllDo.cons _ (RV.pu T (fun γ v L w hl h => h.other _ rfl (by decide) (by decide)) (fun γ L a w hH hl h9 k9 => ⟨_, ?_, rfl⟩)) ?_; · have q0 := hH.glob.fg.at f2 nf9; simp [Region.binds] at k9; simp [execOp, go_sem, h9, k9, q0])
            refine RV.AllDo.cons _ (RV.does_call (fun γ L a w hH hl hA => by have h9 := T γ L a w hH; have k9 := hA; simp [Region.binds] at k9; exact ⟨_, _, by simp [go_sem, h9, k9], Calls.mono (rnsub_any wb 0 _ t.z f.z w hH.glob.fg.cell hH.glob.fg.frozen) (by rintro e w2 ⟨rfl, ha⟩; exact ⟨_, rfl, rfl, fun j v _ h => h.keep _, hH.glob.come _ hl rfl ha.out (by decide) (by decide)⟩)⟩)) ?_
            (refine RV.AllDo.cons _ (RV.pu T (fun γ v L w hl h => h.other _ rfl (by decide) (by decide)) (fun γ L a w hH hl h9 k9 => ⟨_, ?_, rfl⟩)) ?_; · simp [execOp, go_sem, h9])
            refine RV.AllDo.cons _ (RV.does_call (fun γ L a w hH hl hA => by have h9 := T γ L a w hH; have k9 := hA; simp [Region.binds] at k9; exact ⟨_, _, by simp [go_sem, h9, k9], Calls.mono (rnratio_any wb 0 _ ((sub t.z f.z).getD 0) kz 16 w hH.glob.fg.cell hH.glob.fg.frozen) (by rintro e w2 ⟨rfl, ha⟩; exact ⟨_, rfl, rfl, fun j v _ h => h.keep _, hH.glob.come _ hl rfl ha.out (by decide) (by decide)⟩)⟩)) ?_
            refine RV.AllDo.cons _ (RV.does_call (fun γ L a w hH hl hA => by have h9 := T γ L a w hH; have k9 := hA; simp [Region.binds] at k9; exact ⟨_, _, by simp [go_sem, h9, k9], Calls.mono (rnadd_any wb 0 _ f.z ((goR f.z t.z kz).getD 0) w hH.glob.fg.cell hH.glob.fg.frozen) (by rintro e w2 ⟨rfl, ha⟩; exact ⟨_, rfl, rfl, fun j v _ h => h.keep _, hH.glob.come _ hl rfl ha.out (by decide) (by decide)⟩)⟩)) ?_
            (refine RV.AllDo.cons _ (RV.pu T (fun γ v L w hl h => h.other _ rfl (by decide) (by decide)) (fun γ L a w hH hl h9 k9 => ⟨_, ?_, rfl⟩)) ?_; · simp [Region.binds] at k9; simp [execOp, go_sem, h9, k9])
            refine RV.AllDo.cons _ (RV.does_step (fun γ L a w hH hl hA => ⟨.pointer (some ⟨w.heap.size, 0, none⟩), w.alloc (.cells #[.int .i64 0, .int .i64 0, .int .i64 0] 27), by simp [execOp, go_sem], trivial, fun j v _ h => h.keep _, hH.glob.made #[.int .i64 0, .int .i64 0, .int .i64 0] rfl (RV.not_yet hH (RV.wt (j := 41) (i := 40) hWA (by kernel_rfl)) hl) rfl (by decide)⟩)) ?_
            refine RV.AllDo.cons _ (RV.does_store (fun γ L a w hH hl hA => by have h9 := T γ L a w hH; have k9 := hA; simp [Region.binds] at k9; have l0 : L 40 = true := hA ⟨40, .data⟩ (by simp) rfl; have e0 := hH.slot 40 21 (by rw [← hD]; rfl) l0; obtain ⟨b, hb1, hb2, hb3, hb4⟩ := hH.glob.spot l0; rw [hb1] at e0; exact ⟨_, exec_store_all 27 _ _ rfl b 0 _ (by simp [Act.eval, e0]) (by simp [Act.eval, h9, k9]) hb3 (by kernel_rfl) (by simp only [List.all_toArray, List.all_cons, List.all_nil, Value.oneCell', Bool.and_self]), trivial, fun j v _ h => h.keep _, hb4 (by decide) rfl _⟩)) ?_
            exact RV.AllDo.nil
          · intro γ w5 L9 hL hI9 hG9
            have hFL : orL false [(9, (sub t.x f.x).isNone), (11, (goR f.x t.x kz).isNone), (12, (goA f.x t.x kz).isNone), (22, (sub t.y f.y).isNone), (24, (goR f.y t.y kz).isNone), (25, (goA f.y t.y kz).isNone), (35, (sub t.z f.z).isNone), (37, (goR f.z t.z kz).isNone), (38, (goA f.z t.z kz).isNone)] L9 = (false || ((sub t.x f.x).isNone || ((goR f.x t.x kz).isNone || ((goA f.x t.x kz).isNone || ((sub t.y f.y).isNone || ((goR f.y t.y kz).isNone || ((goA f.y t.y kz).isNone || ((sub t.z f.z).isNone || ((goR f.z t.z kz).isNone || ((goA f.z t.z kz).isNone)))))))))) := by unfold orL; simp only [List.any_cons, List.any_nil, hL 9 (by decide), hL 11 (by decide), hL 12 (by decide), hL 22 (by decide), hL 24 (by decide), hL 25 (by decide), hL 35 (by decide), hL 37 (by decide), hL 38 (by decide), Bool.true_and, Bool.or_false]
            obtain ⟨hA9, nb, e9, hnb, Cnb⟩ := hG9.done (hL 40 (by decide)) (hL 41 (by decide))
            have HA9 : Hid (After _ _ _ _) := hA9
            rw [hFL] at HA9
            clear hFL hG9 hA9
            simp only [RV.putL, Act.put, List.setIfInBounds_toArray, List.set_cons_zero, List.set_cons_succ, Nat.reduceAdd]
            rw [e9]
            have Cnb : Hid (CW _ _ _) := Cnb
            clear e9
            clear hI9 hL
            have HA9 : Hid (After ⟨wb, 0, none⟩ bd X w5) := by have h9 := HA9.out; rw [Bool.false_or] at h9; rw [HBD.out]; unfold alN goN; simp only [Bool.or_assoc] at h9 ⊢; exact h9
            have HLV : Hid (Leaves ⟨fb, 0, none⟩ W w5) := HLV.out.after HA9.out hWo
            have Cr : Hid (CW _ _ _) := Cr.out.after HA9.out nr9
            have Cf : Hid (CW _ _ _) := Cf.out.after HA9.out nf9
            have HFF : Hid (w5.frozen? ⟨fb, 0, none⟩ = false) := HA9.out.frozenOf HFC.out HFF.out no9
            have HFC : Hid (w5.cell? ⟨fb, 0, none⟩ = some (.bool fl)) := HA9.out.cellOf HFC.out no9
            have hoc := HA9.out.cell
            have hnb9 : pr ≠ nb := by omega
            clear HA9 f0 f1 f2 t0 t1 t2 HBD
            cases bd with
            | true =>
              obtain rfl : hv1 = f := by rw [HAV.out]; rfl
              obtain rfl : hv2 = 0 := by rw [HAK.out]; rfl
              clear HAV HAK
              obtain ⟨r0, q0⟩ := Cr.out 0 _ rfl
              obtain ⟨r1, q1⟩ := Cr.out 1 _ rfl
              obtain ⟨r2, q2⟩ := Cr.out 2 _ rfl
              have f0 := (Cf.out 0 _ rfl).1
              have f1 := (Cf.out 1 _ rfl).1
              have f2 := (Cf.out 2 _ rfl).1
              have hfc := HFC.out
              have hff := HFF.out
              have nrf : pr ≠ fb := fun e => nfr e.symm
              have nff2 : pf ≠ fb := fun e => nff e.symm
              clear Cnb
              go_wp2_with (fail)
              refine bodyPost_ret (v := .tuple #[hv1.val, .int .i64 0]) (by simp [results, Tryz.results13, go_sem, r0, r1, r2]; try rfl) rfl ?_
              refine ⟨by rfl, ((((HLV.out.own _).set hWr _).set hWr _).set hWr _).done ?_ ?_⟩
              · simp [go_sem, hfc]
              · simp [go_sem, hff]
            | false =>
              obtain rfl : hv1 = alV f t kz := by rw [HAV.out]; rfl
              have e9 : ((hv2 : Nat) : Int) = kz := by rw [HAK.out]; exact hkz.symm
              clear HAV HAK
              subst hkz
              obtain ⟨r0, q0⟩ := Cr.out 0 _ rfl
              obtain ⟨r1, q1⟩ := Cr.out 1 _ rfl
              obtain ⟨r2, q2⟩ := Cr.out 2 _ rfl
              have a0 := (Cnb.out 0 _ rfl).1
              have a1 := (Cnb.out 1 _ rfl).1
              have a2 := (Cnb.out 2 _ rfl).1
              have hfc := HFC.out
              have hff := HFF.out
              have hnb2 : nb ≠ pr := fun e => hnb9 e.symm
              clear Cf
              go_wp2_with (go_region)
              all_goals
                refine bodyPost_ret (v := .tuple #[(alV f t ((k : Nat) : Int)).val, .int .i64 ((k : Nat) : Int)]) (by simp [results, Tryz.results13, go_sem, r0, r1, r2]; first | done | exact ⟨rfl, rfl, rfl⟩) rfl ?_
                refine ⟨by first | rfl | rw [e9], (((HLV.out.set hWr _).set hWr _).set hWr _).done ?_ ?_⟩
                · simp [go_sem, hfc]
                · simp [go_sem, hff]

end Go.Proofs.YtbhdfjoagajipaaGreat
namespace Go.Proofs.YtbhdfjoagajipaaGreat
open Go.RowKit Go.Shelf
set_option linter.unusedVariables false

set_option maxHeartbeats 8000000 in
set_option maxRecDepth 100000 in
theorem hawake_any (w0 : World) : Calls Tryz.prog 11 #[] w0 fun e W => e = .returned (.bool true) ∧ Below w0.heap.size w0 W := by
  have bo : exO.i64 := by unfold V3.i64 exO; decide
  have bt : exT.i64 := by unfold V3.i64 exT; decide
  have h1 := fun (lv : Value) (fb : Nat) (W : World) hl hc hf => hold_any exO exT 2 [exB] lv fb false W hl hc hf bo bt
  have h2 := fun (lv : Value) (fb : Nat) (W : World) hl hc hf => hold_any exO exT 2 [exC] lv fb false W hl hc hf bo bt
  rw [exv_1.1, exv_1.2] at h1
  rw [exv_2.1, exv_2.2] at h2
  dsimp only [V3.val, exO, exT, Bool.or_false] at h1 h2
  have H1 : Hid _ := h1
  have H2 : Hid _ := h2
  clear h1 h2 bo bt
  obtain ⟨V, hV⟩ : ∃ V, V = (w0.alloc (.cells #[.bool false] 46)).alloc (.cells #[.int .i64 33554432, .int .i64 0, .int .i64 0] 27) := ⟨_, rfl⟩
  obtain ⟨fb, hfb⟩ : ∃ b, b = w0.heap.size := ⟨_, rfl⟩
  obtain ⟨tb, htb⟩ : ∃ b, b = w0.heap.size + 1 := ⟨_, rfl⟩
  have k1 := n_after w0 (.cells #[.bool false] 46)
  have k2 := n_after (w0.alloc (.cells #[.bool false] 46)) (.cells #[.int .i64 33554432, .int .i64 0, .int .i64 0] 27)
  have hcf := (CW.new w0 [.bool false] 46).step k2
  have hct := CW.new (w0.alloc (.cells #[.bool false] 46)) [.int .i64 33554432, .int .i64 0, .int .i64 0] 27
  rw [World.size_alloc, ← htb] at hct
  rw [← hfb] at hcf
  rw [← hV] at hcf hct
  obtain ⟨hfc, hff⟩ := hcf 0 _ rfl
  have CT : Hid (CW V tb [.int .i64 33554432, .int .i64 0, .int .i64 0]) := hct
  have HB : Hid (Below w0.heap.size w0 V) := by show Below _ _ _; rw [hV]; exact b_step k1 k2
  have hne : tb ≠ fb := by omega
  have HF0 : Hid (w0.heap.size ≤ fb) := by show _ ≤ _; omega
  clear k1 k2 hcf hct
  go_enter Tryz.func11, Tryz.ntmps11
  go_upto_region 3 with fail
  rw [← hV, ← htb, ← hfb]
  clear hV htb hfb
  have hfc0 := hfc
  obtain ⟨t0, _⟩ := CT.out 0 _ rfl
  obtain ⟨t1, _⟩ := CT.out 1 _ rfl
  obtain ⟨t2, _⟩ := CT.out 2 _ rfl
  obtain ⟨X1, hX1⟩ : ∃ X, X = (V.alloc (.cells #[.int .i64 20, .int .i64 0, .int .i64 0] 23)).alloc (.cells #[.slice (some ⟨V.heap.size, 0, none⟩) 1 1, .slice none 0 0, .slice none 0 0, .int .i64 2] 35) := ⟨_, rfl⟩
  obtain ⟨gb1, hgb1⟩ : ∃ b, b = V.heap.size + 1 := ⟨_, rfl⟩
  have k1 := n_after V (.cells #[.int .i64 20, .int .i64 0, .int .i64 0] 23)
  have k2 := n_after (V.alloc (.cells #[.int .i64 20, .int .i64 0, .int .i64 0] 23)) (.cells #[.slice (some ⟨V.heap.size, 0, none⟩) 1 1, .slice none 0 0, .slice none 0 0, .int .i64 2] 35)
  have c2 := Cel.new (V.alloc (.cells #[.int .i64 20, .int .i64 0, .int .i64 0] 23)) [.slice (some ⟨V.heap.size, 0, none⟩) 1 1, .slice none 0 0, .slice none 0 0, .int .i64 2] 35
  have c1 := (Cel.new V [.int .i64 20, .int .i64 0, .int .i64 0] 23).step k2
  rw [World.size_alloc, ← hgb1] at c2
  rw [← hX1] at c1 c2
  have hbx : Below V.heap.size V X1 := by rw [hX1]; exact b_step k1 k2
  have HL1 : Hid (LiesC X1 (.slice (some ⟨gb1, 0, none⟩) 1 1) [exB]) := liesC_one (c := exB) c2 (lies_one9 c1) (lies_nil9 _) (lies_nil9 _)
  have CT : Hid (CW _ _ _) := CT.out.step hbx
  have HB : Hid _ := b_step HB.out hbx
  have hfc := c_after hbx hfc
  have hff := f_after hbx hfc0 hff
  have HC1 : Hid _ := H1.out _ fb X1 HL1.out hfc hff
  clear k1 k2 c1 c2 hbx HL1 H1 hfc hff hfc0
  go_wp2_with (fail)
  rw [← hX1, ← hgb1]
  clear hX1 hgb1
  refine Calls.mono HC1.out ?_
  rintro e V3 ⟨rfl, HA⟩
  have HB : Hid _ := HA.out.on HB.out HF0.out
  have CT : Hid (CW _ _ _) := CT.out.after HA.out hne
  have hfc := HA.out.cell
  have hff := HA.out.frozen
  clear HA HC1 t0 t1 t2
  obtain ⟨V4, hV4⟩ : ∃ X, X = V3.alloc (.cells #[.int .i64 16777216, .int .i64 0, .int .i64 0] 27) := ⟨_, rfl⟩
  obtain ⟨ab, hab⟩ : ∃ b, b = V3.heap.size := ⟨_, rfl⟩
  have k1 : Below V3.heap.size V3 V4 := by rw [hV4]; exact n_after _ _
  have CA : Hid (CW V4 ab [.int .i64 16777216, .int .i64 0, .int .i64 0]) := by show CW _ _ _; rw [hV4, hab]; exact CW.new V3 [.int .i64 16777216, .int .i64 0, .int .i64 0] 27
  have HB : Hid _ := b_step HB.out k1
  have CT : Hid (CW _ _ _) := CT.out.step k1
  have hnab : ab ≠ fb := by have := World.block_lt_of_cell? _ _ hfc; dsimp only at this; omega
  have hff := f_after k1 hfc hff
  have hfc := c_after k1 hfc
  go_upto_region 4 with fail
  rw [← hV4, ← hab]
  clear hV4 hab k1
  have hfc0 := hfc
  obtain ⟨t0, _⟩ := CT.out 0 _ rfl
  obtain ⟨t1, _⟩ := CT.out 1 _ rfl
  obtain ⟨t2, _⟩ := CT.out 2 _ rfl
  obtain ⟨X2, hX2⟩ : ∃ X, X = (V4.alloc (.cells #[.int .i64 3, .int .i64 0, .int .i64 0] 23)).alloc (.cells #[.slice (some ⟨V4.heap.size, 0, none⟩) 1 1, .slice none 0 0, .slice none 0 0, .int .i64 2] 35) := ⟨_, rfl⟩
  obtain ⟨gb2, hgb2⟩ : ∃ b, b = V4.heap.size + 1 := ⟨_, rfl⟩
  have k1 := n_after V4 (.cells #[.int .i64 3, .int .i64 0, .int .i64 0] 23)
  have k2 := n_after (V4.alloc (.cells #[.int .i64 3, .int .i64 0, .int .i64 0] 23)) (.cells #[.slice (some ⟨V4.heap.size, 0, none⟩) 1 1, .slice none 0 0, .slice none 0 0, .int .i64 2] 35)
  have c2 := Cel.new (V4.alloc (.cells #[.int .i64 3, .int .i64 0, .int .i64 0] 23)) [.slice (some ⟨V4.heap.size, 0, none⟩) 1 1, .slice none 0 0, .slice none 0 0, .int .i64 2] 35
  have c1 := (Cel.new V4 [.int .i64 3, .int .i64 0, .int .i64 0] 23).step k2
  rw [World.size_alloc, ← hgb2] at c2
  rw [← hX2] at c1 c2
  have hbx : Below V4.heap.size V4 X2 := by rw [hX2]; exact b_step k1 k2
  have HL2 : Hid (LiesC X2 (.slice (some ⟨gb2, 0, none⟩) 1 1) [exC]) := liesC_one (c := exC) c2 (lies_one9 c1) (lies_nil9 _) (lies_nil9 _)
  have CT : Hid (CW _ _ _) := CT.out.step hbx
  have CA : Hid (CW _ _ _) := CA.out.step hbx
  have HB : Hid _ := b_step HB.out hbx
  have hfc := c_after hbx hfc
  have hff := f_after hbx hfc0 hff
  have HC2 : Hid _ := H2.out _ fb X2 HL2.out hfc hff
  clear k1 k2 c1 c2 hbx HL2 H2 hfc hff hfc0
  go_wp2_with (fail)
  rw [← hX2, ← hgb2]
  clear hX2 hgb2
  refine Calls.mono HC2.out ?_
  rintro e V5 ⟨rfl, HA⟩
  have HB : Hid _ := HA.out.on HB.out HF0.out
  have CT : Hid (CW _ _ _) := CT.out.after HA.out hne
  have CA : Hid (CW _ _ _) := CA.out.after HA.out hnab
  have hfc := HA.out.cell
  clear HA HC2 t0 t1 t2
  obtain ⟨V6, hV6⟩ : ∃ X, X = V5.alloc (.cells #[.int .i64 33554432, .int .i64 0, .int .i64 0] 27) := ⟨_, rfl⟩
  obtain ⟨bb, hbb⟩ : ∃ b, b = V5.heap.size := ⟨_, rfl⟩
  have k1 : Below V5.heap.size V5 V6 := by rw [hV6]; exact n_after _ _
  have CB : Hid (CW V6 bb [.int .i64 33554432, .int .i64 0, .int .i64 0]) := by show CW _ _ _; rw [hV6, hbb]; exact CW.new V5 [.int .i64 33554432, .int .i64 0, .int .i64 0] 27
  have HB : Hid _ := b_step HB.out k1
  have CT : Hid (CW _ _ _) := CT.out.step k1
  have CA : Hid (CW _ _ _) := CA.out.step k1
  have hfc := c_after k1 hfc
  go_upto_region 5 with fail
  rw [← hV6, ← hbb]
  clear hV6 hbb k1
  obtain ⟨t0, _⟩ := CT.out 0 _ rfl
  obtain ⟨t1, _⟩ := CT.out 1 _ rfl
  obtain ⟨t2, _⟩ := CT.out 2 _ rfl
  obtain ⟨a0, _⟩ := CA.out 0 _ rfl
  obtain ⟨a1, _⟩ := CA.out 1 _ rfl
  obtain ⟨a2, _⟩ := CA.out 2 _ rfl
  obtain ⟨b0, _⟩ := CB.out 0 _ rfl
  obtain ⟨b1, _⟩ := CB.out 1 _ rfl
  obtain ⟨b2, _⟩ := CB.out 2 _ rfl
  clear CT CA CB
  go_wp2_with (fail)
  go_ret
  exact ⟨rfl, HB.out⟩
end Go.Proofs.YtbhdfjoagajipaaGreat
namespace Go.Proofs.YtbhdfjoagajipaaGreat
open Go.RowKit Go.Shelf Fx
set_option linter.unusedVariables false

set_option maxHeartbeats 16000000 in
set_option maxRecDepth 100000 in
theorem tells_any (f t : V3) (r : Int) (L : List Cr) (lv : Value) (W : World) (hl : LiesC W lv L) (bf : f.i64) (bt : t.i64) :
    Calls Tryz.prog 4 #[f.val, t.val, .int .i64 r, lv] W fun e W' => e = .returned (.bool true) ∧ Below W.heap.size W W' := by
  have AWK : Hid _ := fun W => hawake_any W
  have HLC0 : Hid _ := hl
  obtain ⟨V, hV⟩ : ∃ V, V = ((W.alloc (.cells #[.int .i64 f.x, .int .i64 f.y, .int .i64 f.z] 27)).alloc (.cells #[.int .i64 t.x, .int .i64 t.y, .int .i64 t.z] 27)) := ⟨_, rfl⟩
  have hb0 := n_after W (.cells #[.int .i64 f.x, .int .i64 f.y, .int .i64 f.z] 27)
  have hb1 := n_after (W.alloc (.cells #[.int .i64 f.x, .int .i64 f.y, .int .i64 f.z] 27)) (.cells #[.int .i64 t.x, .int .i64 t.y, .int .i64 t.z] 27)
  have Cf : CW V (W.heap.size) [.int .i64 f.x, .int .i64 f.y, .int .i64 f.z] := by
    have h9 := (CW.new W [.int .i64 f.x, .int .i64 f.y, .int .i64 f.z] 27).step hb1
    rw [hV]; exact h9
  have Ct : CW V (W.heap.size + 1) [.int .i64 t.x, .int .i64 t.y, .int .i64 t.z] := by
    have h9 := CW.new (W.alloc (.cells #[.int .i64 f.x, .int .i64 f.y, .int .i64 f.z] 27)) [.int .i64 t.x, .int .i64 t.y, .int .i64 t.z] 27
    simp only [World.size_alloc] at h9
    rw [hV]; exact h9
  have hB : Below W.heap.size W V := by rw [hV]; exact (b_step hb0 hb1)
  clear hb0 hb1
  have HLC : Hid _ := HLC0.out.below hB
  have HH1 : Hid _ := fun (fb : Nat) (fl : Bool) (w' : World) (h : Below V.heap.size V w') h1 h2 => hold_any f t r L lv fb fl w' (HLC.out.below h) h1 h2 bf bt
  have HH2 : Hid _ := fun (fb : Nat) (fl : Bool) (w' : World) (h : Below V.heap.size V w') h1 h2 => rhold_any f t r L lv fb fl w' (HLC.out.below h) h1 h2
  obtain ⟨o, cap, rfl, _⟩ := hl.form
  clear hl bf bt HLC0
  obtain ⟨⟨⟨hx, hy, hz⟩, hk⟩, hhv⟩ : ∃ x, holdV f t r L = x := ⟨_, rfl⟩
  rw [hhv] at HH1 HH2
  clear hhv
  generalize holdN f t r L = hn at *
  dsimp only [V3.val] at HH1 HH2
  have HB : Hid _ := hB
  clear hB
  go_enter Tryz.func4, Tryz.ntmps4
  go_upto_region 1 with fail
  rw [← hV]
  clear hV
  obtain ⟨pt, hpt⟩ : ∃ p, p = W.heap.size + 1 := ⟨_, rfl⟩
  obtain ⟨pf, hpf⟩ : ∃ p, p = W.heap.size := ⟨_, rfl⟩
  rw [← hpt] at Ct
  rw [← hpf] at Cf
  rw [← hpt, ← hpf]
  have Cf : Hid (CW _ _ _) := Cf
  have Ct : Hid (CW _ _ _) := Ct
  clear hpf hpt
  go_wp2_with (fail)
  refine Calls.mono (AWK.out _) ?_
  rintro e V1 ⟨rfl, hb⟩
  have HBA : Hid (Below V.heap.size V V1) := hb
  clear hb AWK
  by_cases h6 : (6 : Int) < (L.length : Int)
  · go_wp2_with (fail)
    go_ret
    exact ⟨rfl, b_step HB.out HBA.out⟩
  · go_upto_region 5 with fail
    clear h6
    go_loopg [10] L.length (fun gm s10 wr => ∃ (i : Nat), s10 = .int .i64 (i : Int) ∧ i ≤ L.length ∧ Hid (gm = L.length - i) ∧ Hid (Below V.heap.size V wr))
    case atStart => exact ⟨0, rfl, Nat.zero_le _, rfl, HBA⟩
    case round =>
      obtain ⟨i, rfl, hi9, HG, HBL⟩ := hrel
      by_cases hit : i < L.length
      · have hl1 : (i : Int) < (L.length : Int) := by omega
        obtain ⟨o', cap', e', _, _, hcl⟩ := (HLC.out.below HBL.out).form
        cases e'
        obtain ⟨lb, lo, qv, bv, fv, rfl, x0, x1, x2, x3, l1, l2, l3⟩ := hcl i hit
        clear hcl x3
        obtain ⟨c, hc⟩ : ∃ x, cr L i = x := ⟨_, rfl⟩
        rw [hc] at l1 l2 l3
        clear hc
        obtain ⟨o4, c4, rfl, _⟩ := l1.form
        obtain ⟨o5, c5, rfl, _⟩ := l2.form
        obtain ⟨o6, c6, rfl, _⟩ := l3.form
        clear l1 l2 l3
        by_cases h1 : (40 : Int) < (c.P.length : Int)
        · clear x1 x2
          go_wp2_with (fail)
          go_ret
          exact ⟨rfl, b_step HB.out HBL.out⟩
        · by_cases h2 : (16 : Int) < (c.E.length : Int)
          · clear x1
            go_wp2_with (fail)
            go_ret
            exact ⟨rfl, b_step HB.out HBL.out⟩
          · by_cases h3 : (80 : Int) < (c.A.length : Int)
            · go_wp2_with (fail)
              go_ret
              exact ⟨rfl, b_step HB.out HBL.out⟩
            · go_wp2_with (fail)
              go_roundg (L.length - (i + 1))
              case measure => have := HG.out; omega
              case rel => exact ⟨i + 1, by go_num, by omega, rfl, HBL⟩
      · have hl1 : ¬ (i : Int) < (L.length : Int) := by omega
        obtain ⟨X, hX⟩ : ∃ V, V = (wr.alloc (.cells #[.bool false] 46)).alloc (.cells #[.bool false] 48) := ⟨_, rfl⟩
        obtain ⟨fb, hfb⟩ : ∃ b, b = wr.heap.size := ⟨_, rfl⟩
        obtain ⟨ob, hob⟩ : ∃ b, b = wr.heap.size + 1 := ⟨_, rfl⟩
        have k1 := n_after wr (.cells #[.bool false] 46)
        have k2 := n_after (wr.alloc (.cells #[.bool false] 46)) (.cells #[.bool false] 48)
        have c1 := (CW.new wr [.bool false] 46).step k2
        have c2 := CW.new (wr.alloc (.cells #[.bool false] 46)) [.bool false] 48
        rw [World.size_alloc, ← hob] at c2
        rw [← hfb] at c1
        rw [← hX] at c1 c2
        have kb : Below wr.heap.size wr X := by rw [hX]; exact b_step k1 k2
        have HN9 : Hid (wr.heap.size ≤ fb ∧ wr.heap.size ≤ ob ∧ fb ≠ ob) := by show _ ∧ _ ∧ _; omega
        have CF9 : Hid (CW _ _ _) := c1
        have CO9 : Hid (CW _ _ _) := c2
        have HBX : Hid (Below wr.heap.size wr X) := kb
        clear k1 k2 c1 c2 kb
        go_upto_region 11 with fail
        rw [← hX, ← hob, ← hfb]
        clear hX hob hfb hl1
        have HC1 : Hid _ := HH1.out fb false X (b_step HBL.out HBX.out) (CF9.out 0 _ rfl).1 (CF9.out 0 _ rfl).2
        have q0f := (Cf.out.step (b_step HBL.out HBX.out) 0 _ rfl).1
        have q0t := (Ct.out.step (b_step HBL.out HBX.out) 0 _ rfl).1
        have q1f := (Cf.out.step (b_step HBL.out HBX.out) 1 _ rfl).1
        have q1t := (Ct.out.step (b_step HBL.out HBX.out) 1 _ rfl).1
        have q2f := (Cf.out.step (b_step HBL.out HBX.out) 2 _ rfl).1
        have q2t := (Ct.out.step (b_step HBL.out HBX.out) 2 _ rfl).1
        go_wp2_with (fail)
        refine Calls.mono HC1.out ?_
        rintro e W1 ⟨rfl, HA⟩
        have HA : Hid (After ⟨fb, 0, none⟩ hn X W1) := by have h9 := HA.out; rw [Bool.false_or] at h9; exact h9
        have HB1 : Hid (Below wr.heap.size wr W1) := HA.out.on HBX.out HN9.out.1
        have o1 := HA.out.cellOf (CO9.out 0 _ rfl).1 (fun e => HN9.out.2.2 e.symm)
        have o2 := HA.out.frozenOf (CO9.out 0 _ rfl).1 (CO9.out 0 _ rfl).2 (fun e => HN9.out.2.2 e.symm)
        have f1 := HA.out.cell
        clear HA HC1 CF9 CO9 HBX HH1 q0f q0t q1f q1t q2f q2t
        obtain ⟨W2, hW2⟩ : ∃ X, X = W1.alloc (.cells #[.int .i64 hx, .int .i64 hy, .int .i64 hz] 27) := ⟨_, rfl⟩
        obtain ⟨ab, hab⟩ : ∃ b, b = W1.heap.size := ⟨_, rfl⟩
        have kb : Below W1.heap.size W1 W2 := by rw [hW2]; exact n_after _ _
        have CA : Hid (CW W2 ab [.int .i64 hx, .int .i64 hy, .int .i64 hz]) := by show CW _ _ _; rw [hW2, hab]; exact CW.new W1 [.int .i64 hx, .int .i64 hy, .int .i64 hz] 27
        have HB2 : Hid (Below wr.heap.size wr W2) := b_step HB1.out kb
        have o1 := c_after kb o1
        have o3 : W2.frozen? ⟨ob, 0, none⟩ = false := f_after kb (by assumption) o2
        have f1 := c_after kb f1
        have HAO : Hid (ab ≠ ob) := by show _ ≠ _; have := World.block_lt_of_cell? _ _ (show W1.cell? ⟨ob, 0, none⟩ = _ by assumption); show ab ≠ ob; have h9 : ob < W1.heap.size := this; omega
        have HO1 : Hid _ := o1
        have HO2 : Hid _ := o3
        have HF1 : Hid _ := f1
        clear kb o1 o2 o3 f1 HB1
        go_upto_region 12 with fail
        rw [← hW2, ← hab]
        clear hW2 hab
        have HC2 : Hid _ := HH2.out ob false W2 (b_step HBL.out HB2.out) HO1.out HO2.out
        have q0f := (Cf.out.step (b_step HBL.out HB2.out) 0 _ rfl).1
        have q0t := (Ct.out.step (b_step HBL.out HB2.out) 0 _ rfl).1
        have q1f := (Cf.out.step (b_step HBL.out HB2.out) 1 _ rfl).1
        have q1t := (Ct.out.step (b_step HBL.out HB2.out) 1 _ rfl).1
        have q2f := (Cf.out.step (b_step HBL.out HB2.out) 2 _ rfl).1
        have q2t := (Ct.out.step (b_step HBL.out HB2.out) 2 _ rfl).1
        go_wp2_with (fail)
        refine Calls.mono HC2.out ?_
        rintro e W3 ⟨rfl, HA⟩
        have HA : Hid (After ⟨ob, 0, none⟩ hn W2 W3) := by have h9 := HA.out; rw [Bool.false_or] at h9; exact h9
        have HB3 : Hid (Below wr.heap.size wr W3) := HA.out.on HB2.out HN9.out.2.1
        have CA : Hid (CW _ _ _) := CA.out.after HA.out HAO.out
        have f1 := HA.out.cellOf HF1.out HN9.out.2.2
        have o1 := HA.out.cell
        have HB4 : Hid (Below wr.heap.size wr _) := b_step HB3.out (n_after W3 (.cells #[.int .i64 hx, .int .i64 hy, .int .i64 hz] 27))
        have kb := n_after W3 (.cells #[.int .i64 hx, .int .i64 hy, .int .i64 hz] 27)
        have CB := CW.new W3 [.int .i64 hx, .int .i64 hy, .int .i64 hz] 27
        obtain ⟨W4, hW4⟩ : ∃ X, X = W3.alloc (.cells #[.int .i64 hx, .int .i64 hy, .int .i64 hz] 27) := ⟨_, rfl⟩
        obtain ⟨bb, hbb⟩ : ∃ b, b = W3.heap.size := ⟨_, rfl⟩
        rw [← hW4] at HB4 kb CB
        rw [← hbb] at CB
        have a0 := (CA.out.step kb 0 _ rfl).1
        have a1 := (CA.out.step kb 1 _ rfl).1
        have a2 := (CA.out.step kb 2 _ rfl).1
        have b0 := (CB 0 _ rfl).1
        have b1 := (CB 1 _ rfl).1
        have b2 := (CB 2 _ rfl).1
        have f1 := c_after kb f1
        have o1 := c_after kb o1
        clear HA HC2 CA CB HO1 HO2 HF1 HH2 kb q0f q0t q1f q1t q2f q2t
        go_upto_region 13 with fail
        rw [← hW4, ← hbb]
        clear hW4 hbb
        have HBF : Hid _ := b_step HB.out (b_step HBL.out HB4.out)
        clear HB HBL HB4 HB3 HB2 HN9 HLC Cf Ct HG
        go_wp2_with (go_region)
        all_goals
          go_ret
          exact ⟨rfl, by first | exact HBF.out | exact HBF.out.drew⟩
end Go.Proofs.YtbhdfjoagajipaaGreat
namespace Go.Proofs.YtbhdfjoagajipaaGreat
open Go.ChangeShapes Go.WideShapes Go.Deep Go.Joins

section
variable {H : Type} {enc : TypeId × Value → H} {w : World} {base : Nat} {spare : Nat → Bool} {held : Bool}

theorem lit_of {n : Nat} {c : Value} {y : DataW H × List MemPlace} (h : DataW.trod enc Tryz.prog w base spare held n 3 [c] = some y) : ∃ x : Int, c = .int .i64 x ∧ y = (.lit (.int .i64 x), []) ∧ (Lit.int .i64 x).wf = true := by
  obtain ⟨x, h1, h2, h3⟩ := DataW.trod_int Tryz.underlying3 h
  simp at h1
  exact ⟨x, h1, h2, h3⟩
end
end Go.Proofs.YtbhdfjoagajipaaGreat
namespace Go.Proofs.YtbhdfjoagajipaaGreat
open Go.ChangeShapes Go.WideShapes Go.Deep Go.Joins
set_option linter.unusedVariables false

theorem points_of {H : Type} {enc : TypeId × Value → H} {W : World} {base : Nat} {spare : Nat → Bool} {held : Bool} {a : Option Addr} {len cap fuel : Nat} {x : DataW H × List MemPlace}
    (h : DataW.trod enc Tryz.prog W base spare held fuel 24 [.slice a len cap] = some x) : ∃ L : List Pt, L.length = len ∧ Lies W (.slice a len cap) L ∧ ∀ p ∈ L, p.fits := by
  rcases Deep.open_slice Tryz.underlying24 h with ⟨hcs, _⟩ | ⟨y, l, c, m, n, D, Pl, hcs, _, hl, hm, hmm, _, hx⟩
  · simp at hcs
    obtain ⟨rfl, rfl, rfl⟩ := hcs
    exact ⟨[], rfl, ⟨none, 0, rfl, by simp, by omega, fun i hi => by simp at hi⟩, by simp⟩
  · simp at hcs
    obtain ⟨rfl, rfl, rfl⟩ := hcs
    unfold maxLen at hm
    have hlm : len ≤ m := by rw [hmm]; split <;> omega
    have hc3 : Tryz.prog.cellsOf 23 = 3 := by kernel_rfl
    have hc1 : Tryz.prog.cellsOf 3 = 1 := by kernel_rfl
    have each : ∀ i, i < len → ∃ q : Pt, (W.cell? ((y.add (i * 3)).add 0) = some (.int .i64 q.x) ∧ W.cell? ((y.add (i * 3)).add 1) = some (.int .i64 q.y) ∧ W.cell? ((y.add (i * 3)).add 2) = some (.int .i64 q.z)) ∧ q.fits := by
      intro i hi
      obtain ⟨cs', hcells, ht⟩ := hx i (by omega)
      rw [hc3] at hcells
      obtain ⟨_, hlen, hcell⟩ := World.cells?_some hcells
      obtain ⟨xs, k, _, _, _, hxl, hel⟩ := DataW.trod_struct Tryz.underlying23 ht
      have get : ∀ (v : Value) (j : Nat), ((cs'.drop j).take 1) = [v] → cs'[j]? = some v := fun v j h => by
        have h2 : ((cs'.drop j).take 1)[0]? = some v := by rw [h]; rfl
        simpa [List.getElem?_take, List.getElem?_drop] using h2
      have some_of : ∀ j, j < 3 → ∃ z, xs[j]? = some z := fun j hj => ⟨_, List.getElem?_eq_getElem (by rw [hxl]; exact hj)⟩
      have e0 := hel 0 _ rfl
      have e1 := hel 1 _ rfl
      have e2 := hel 2 _ rfl
      obtain ⟨z0, hz0⟩ := some_of 0 (by omega)
      obtain ⟨z1, hz1⟩ := some_of 1 (by omega)
      obtain ⟨z2, hz2⟩ := some_of 2 (by omega)
      rw [hz0] at e0
      rw [hz1] at e1
      rw [hz2] at e2
      obtain ⟨p, hp, _, wp⟩ := DataW.trod_int Tryz.underlying3 e0
      obtain ⟨q, hq, _, wq⟩ := DataW.trod_int Tryz.underlying3 e1
      obtain ⟨r, hr, _, wr⟩ := DataW.trod_int Tryz.underlying3 e2
      have hp2 : (cs'.drop 0).take (Tryz.prog.cellsOf 3) = [.int .i64 p] := hp
      have hq2 : (cs'.drop 1).take (Tryz.prog.cellsOf 3) = [.int .i64 q] := hq
      have hr2 : (cs'.drop 2).take (Tryz.prog.cellsOf 3) = [.int .i64 r] := hr
      rw [hc1] at hp2 hq2 hr2
      have b0 := bounds_i64 wp
      have b1 := bounds_i64 wq
      have b2 := bounds_i64 wr
      exact ⟨⟨p, q, r⟩, ⟨(hcell 0 (by omega)).trans (get _ 0 hp2), (hcell 1 (by omega)).trans (get _ 1 hq2), (hcell 2 (by omega)).trans (get _ 2 hr2)⟩, ⟨by dsimp only; omega, by dsimp only; omega⟩, ⟨by dsimp only; omega, by dsimp only; omega⟩, ⟨by dsimp only; omega, by dsimp only; omega⟩⟩
    have ch : ∃ (l : Nat → Pt), ∀ i, i < len → (W.cell? ((y.add (i * 3)).add 0) = some (.int .i64 (l i).x) ∧ W.cell? ((y.add (i * 3)).add 1) = some (.int .i64 (l i).y) ∧ W.cell? ((y.add (i * 3)).add 2) = some (.int .i64 (l i).z)) ∧ (l i).fits := by
      refine ⟨fun i => if h : i < len then (each i h).choose else Pt.O, fun i hi => ?_⟩
      simp only [dif_pos hi]
      exact (each i hi).choose_spec
    obtain ⟨l, hall⟩ := ch
    have hln : ((List.range len).map l).length = len := by simp
    have hpt : ∀ i, i < len → pt ((List.range len).map l) i = l i := fun i hi => by unfold pt; simp [hi]
    refine ⟨(List.range len).map l, hln, ⟨some y, cap, by rw [hln], by rw [hln]; exact hl, by omega, fun i hi => ?_⟩, fun p hp => ?_⟩
    · rw [hln] at hi
      obtain ⟨b, off, spot⟩ := y
      obtain ⟨⟨h0, h1, h2⟩, _⟩ := hall i hi
      have hs : spot = none := by simpa [Addr.add] using World.cell?_spot (hall 0 (by omega)).1.1
      subst hs
      have ad : ∀ i j, ((⟨b, off, none⟩ : Addr).add (i * 3)).add j = ⟨b, off + i * 3 + j, none⟩ := fun i j => by
        unfold Addr.add
        split <;> split <;> simp_all
      rw [ad] at h0 h1 h2
      exact ⟨b, off, rfl, by rw [hpt i hi]; exact h0, by rw [hpt i hi]; exact h1, by rw [hpt i hi]; exact h2⟩
    · rw [List.mem_map] at hp
      obtain ⟨i, hi, rfl⟩ := hp
      exact (hall i (by simpa using hi)).2
end Go.Proofs.YtbhdfjoagajipaaGreat
