/- Package event: All, Clone. -/
import Derived.Test.YtbbmjfaflcbimaaEvD
namespace Go.Proofs.Ytbbmjfaflcbimaa
open Go.RowKit Go.Shelf
set_option linter.unusedVariables false

theorem evs_set : ∀ (M : List Ev) (i : Nat) (e : Ev), i < M.length → evs (M.set i e) = (((evs M).set (i * 3) (.int .i64 e.k)).set (i * 3 + 1) (.int .i64 e.a)).set (i * 3 + 2) (.int .i64 e.b)
  | [], i, e, h => by simp at h
  | p :: r, 0, e, _ => rfl
  | p :: r, i + 1, e, h => by
    rw [List.set_cons_succ, show (i + 1) * 3 = i * 3 + 3 by omega]
    simp only [evs, List.set_cons_succ, show i * 3 + 3 = i * 3 + 1 + 1 + 1 by omega, show i * 3 + 1 + 1 + 1 + 1 = (i * 3 + 1) + 1 + 1 + 1 by omega, show i * 3 + 1 + 1 + 1 + 2 = (i * 3 + 2) + 1 + 1 + 1 by omega]
    rw [evs_set r i e (by simpa using h)]
/-- A block that holds just these events. -/
structure EL (W : World) (g : Nat) (M : List Ev) : Prop where
  heap : W.heap[g]? = some (.cells (evs M).toArray 37 (0, 0))
theorem EL.cell {W : World} {g : Nat} {M : List Ev} (h : EL W g M) {i : Nat} (hi : i < M.length) : W.cell? ⟨g, i * 3, none⟩ = some (.int .i64 (evAt M i).k) ∧ W.cell? ⟨g, i * 3 + 1, none⟩ = some (.int .i64 (evAt M i).a) ∧ W.cell? ⟨g, i * 3 + 2, none⟩ = some (.int .i64 (evAt M i).b) := by
  obtain ⟨a, b, c⟩ := evs_at M i hi
  have h := h.heap
  refine ⟨?_, ?_, ?_⟩ <;> simp [World.cell?, h, a, b, c]
theorem EL.froz {W : World} {g : Nat} {M : List Ev} (h : EL W g M) (o : Nat) : W.frozen? ⟨g, o, none⟩ = false := by have h := h.heap; simp [World.frozen?, h]
theorem EL.lt {W : World} {g : Nat} {M : List Ev} (h : EL W g M) : g < W.heap.size := (Array.getElem?_eq_some_iff.1 h.heap).1
theorem EL.below {w W : World} {g : Nat} {M : List Ev} (h : EL w g M) (hb : Below w.heap.size w W) : EL W g M := ⟨(hb.block g h.lt).trans h.heap⟩
theorem EL.set {W : World} {g : Nat} {M : List Ev} (h : EL W g M) {i : Nat} (hi : i < M.length) (e : Ev) : EL (((W.setCell ⟨g, i * 3, none⟩ (.int .i64 e.k)).setCell ⟨g, i * 3 + 1, none⟩ (.int .i64 e.a)).setCell ⟨g, i * 3 + 2, none⟩ (.int .i64 e.b)) g (M.set i e) := by
  constructor
  have h1 := heap_setCell_same W g (i * 3) _ _ (.int .i64 e.k) h.heap
  have h2 := heap_setCell_same _ g (i * 3 + 1) _ _ (.int .i64 e.a) h1
  have h3 := heap_setCell_same _ g (i * 3 + 2) _ _ (.int .i64 e.b) h2
  rw [h3, evs_set M i e hi]
  simp
theorem EL.own {W : World} {base g : Nat} {M : List Ev} (h : EL W g M) (hb : base ≤ g) (hm : M.length ≤ 140737488355328) : W.ownsRow base 37 3 (.slice (some ⟨g, 0, none⟩) M.length M.length) M.length (evs M) :=
  ⟨evs_length M, Or.inr ⟨g, M.length, _, rfl, hb, h.heap, Nat.le_refl _, by unfold maxLen; omega, by simp [evs_length], by simp [← evs_length]⟩⟩
theorem EL.made {W : World} {g N : Nat} (h : W.heap[g]? = some (.cells (madeCells (Value.agg #[.int .i64 0, .int .i64 0, .int .i64 0]).cells (N * 3)) 37 (0, 0))) : EL W g (List.replicate N Ev.O) := by
  constructor
  rw [h]
  congr 2
  apply Array.ext
  · simp [madeCells, evs_length]
  · intro j h1 h2
    have hj : j < N * 3 := by simpa [madeCells] using h1
    have a := made19_at N j hj
    have hl : j / 3 < (List.replicate N Ev.O).length := by rw [List.length_replicate]; omega
    obtain ⟨b0, b1, b2⟩ := evs_at (List.replicate N Ev.O) (j / 3) hl
    have get : evAt (List.replicate N Ev.O) (j / 3) = Ev.O := by unfold evAt; simp only [List.length_replicate] at hl; simp [hl]
    rw [get] at b0 b1 b2
    have b : (evs (List.replicate N Ev.O)).toArray[j]? = some (.int .i64 0) := by
      have : j % 3 = 0 ∨ j % 3 = 1 ∨ j % 3 = 2 := by omega
      rw [List.getElem?_toArray]
      rcases this with e | e | e
      · rw [show j = j / 3 * 3 by omega]; exact b0
      · rw [show j = j / 3 * 3 + 1 by omega]; exact b1
      · rw [show j = j / 3 * 3 + 2 by omega]; exact b2
    rw [Array.getElem?_eq_getElem h1] at a
    rw [Array.getElem?_eq_getElem h2] at b
    simp only [Option.some.injEq] at a b
    rw [a, b]
/-- What is written so far. -/
def AK (w W : World) (g : Nat) (C : List Ev) (k : Nat) : Prop := ∃ M : List Ev, M.length = C.length ∧ EL W g M ∧ (∀ i, i < k → evAt M i = evAt C i) ∧ Below w.heap.size w W
set_option maxHeartbeats 1000000 in
set_option maxRecDepth 100000 in
theorem qall_any (qp rb room : Nat) (C : List Ev) (w : World) (h : Qu w qp rb room C) :
    Calls Try.prog 15 #[.pointer (some ⟨qp, 0, none⟩)] w fun e W => e = .returned (.slice (some ⟨w.heap.size, 0, none⟩) C.length C.length) ∧ EL W w.heap.size C ∧ Below w.heap.size w W := by
  obtain ⟨R, f, hq, hR, hr⟩ := h
  have hroom := hq.room
  have hcc := hq.count
  have hfst := hq.first
  have c2 := hq.c2
  obtain ⟨i0, hi, hz, hs, hb⟩ := info_parts ev_info
  have hmk := run_make (P := Try.prog) w 31 37 i0 _ Try.underlying31 hi hz .i64 .i64 C.length C.length (by omega) (Int.le_refl _) (by rw [hb]; omega) (by omega)
  rw [Int.toNat_natCast, hs] at hmk
  obtain ⟨K0, hK0⟩ : ∃ K0, K0 = madeCells (Value.agg #[.int .i64 0, .int .i64 0, .int .i64 0]).cells (C.length * 3) := ⟨_, rfl⟩
  rw [← hK0] at hmk
  have HA0 : Hid (AK w (w.alloc (.cells K0 37)) w.heap.size C 0) := ⟨List.replicate C.length Ev.O, by simp, EL.made (by rw [hK0]; exact heap_alloc_new w _), fun i hi => by omega, (Below.refl _ w).alloc (Nat.le_refl _) _⟩
  clear hK0 hi hz hs hb
  have hq1 := hq.qlt
  have hq2 := hq.rlt
  have HQ : Hid _ := hq
  have HR : Hid _ := hr
  clear hq hr
  obtain ⟨N, hN⟩ : ∃ N, C.length = N := ⟨_, rfl⟩
  obtain ⟨g, hg⟩ : ∃ g, w.heap.size = g := ⟨_, rfl⟩
  rw [hN] at hmk c2 hcc
  rw [hg] at hmk HA0 hq1 hq2
  rw [hN, hg]
  have HN : Hid _ := hN
  have HG : Hid _ := hg
  clear hN hg
  go_enter Try.func15, Try.ntmps15
  go_wp2_with (fail)
  go_loopg [4, 12] N (fun gm i4 j wr => ∃ k : Nat, j = .int .i64 (k : Int) ∧ k ≤ N ∧ gm = N - k ∧ Hid (AK w wr g C k))
  case atStart => exact ⟨0, rfl, Nat.zero_le _, rfl, HA0⟩
  case round =>
    obtain ⟨k, rfl, hk, hgm, HO⟩ := hrel
    have HM : Hid _ := hgm
    clear hgm HA0
    by_cases hlt : k < N
    · obtain ⟨M, hMl, hE, hS, hB⟩ := HO.out
      have HE : Hid _ := hE
      have HS : Hid _ := hS
      have HB : Hid _ := hB
      have HML : Hid (M.length = N) := by rw [hMl]; exact HN.out
      clear HO hE hS hB hMl
      obtain ⟨m, hm⟩ : ∃ m, (f + k) % R.length = m := ⟨_, rfl⟩
      have hml : m < R.length := by rw [← hm]; exact Nat.mod_lt _ (by omega)
      have hmi : (m : Int) < (R.length : Int) := by omega
      have HC : Hid (∀ W, Below wr.heap.size wr W → Calls Try.prog 28 #[.pointer (some ⟨qp, 0, none⟩), .int .i64 (k : Int)] W fun e W2 => e = .returned (.int .i64 (m : Int)) ∧ Below W.heap.size W W2) := fun W hb => by
        have := qplace_any qp rb R f C.length k W (HQ.out.below (z_step HB.out hb)) (by omega)
        rw [hm] at this
        exact this
      have HEV : Hid (evAt C k = evAt R m) := by
        have := ring_at R f C.length k (by rw [HN.out]; exact hlt)
        rw [HR.out, hm] at this
        exact this
      obtain ⟨cpq, hqc, hqm, z0⟩ := (HQ.out.below HB.out).slice
      have x0 := (HQ.out.below HB.out).k m hml
      have x1 := (HQ.out.below HB.out).a m hml
      have x2 := (HQ.out.below HB.out).b m hml
      obtain ⟨y0, y1, y2⟩ := HE.out.cell (i := k) (by rw [HML.out]; exact hlt)
      have gz := HE.out.froz
      have hgV : g < wr.heap.size := HE.out.lt
      generalize (evAt M k).k = w0 at *
      generalize (evAt M k).a = w1 at *
      generalize (evAt M k).b = w2 at *
      obtain ⟨E, hE⟩ : ∃ E, evAt R m = E := ⟨_, rfl⟩
      rw [hE] at x0 x1 x2
      have HEV2 : Hid (evAt C k = E) := HEV.out.trans hE
      obtain ⟨ek, ea, eb⟩ := E
      dsimp only at x0 x1 x2
      clear hm hE
      go_upto_region 5 with fail
      have HKF : Hid (∀ W', Below wr.heap.size wr W' → AK w (((W'.setCell ⟨g, k * 3, none⟩ (.int .i64 ek)).setCell ⟨g, k * 3 + 1, none⟩ (.int .i64 ea)).setCell ⟨g, k * 3 + 2, none⟩ (.int .i64 eb)) g C (k + 1)) := fun W' hB' => by
        refine ⟨M.set k ⟨ek, ea, eb⟩, by rw [List.length_set, HML.out, HN.out], (HE.out.below hB').set (by rw [HML.out]; exact hlt) ⟨ek, ea, eb⟩, fun i hi => ?_, ?_⟩
        · rw [evAt_set _ _ _ _ (by rw [HML.out]; exact hlt)]
          by_cases e : i = k
          · rw [if_pos e, e, HEV2.out]
          · rw [if_neg e]; exact HS.out i (by omega)
        · have := z_step HB.out hB'
          rw [HG.out] at this ⊢
          exact ((this.setCell (by simp) _).setCell (by simp) _).setCell (by simp) _
      clear HS HB HE HML HEV HEV2
      go_region_with (go_at_call 28; refine (HC.out _ (by first | exact Below.refl _ _ | exact (Below.refl _ _).drew)).mono ?_; rintro e W' ⟨rfl, hb⟩; have HB' : Hid (Below wr.heap.size wr W') := (Below.refl _ wr).drew.trans hb; have gz := z_froz hb hgV gz; have z0 := z_after hb z0; have x0 := z_after hb x0;  have x1 := z_after hb x1; have x2 := z_after hb x2; have y0 := z_after hb y0; have y1 := z_after hb y1; have y2 := z_after hb y2)
      all_goals
        go_wp2_with (fail)
        go_roundg (N - (k + 1))
        case measure => have := HM.out; omega
        case rel => exact ⟨k + 1, by go_num, by omega, rfl, HKF.out W' HB'.out⟩
    · have e : k = N := by omega
      subst e
      obtain ⟨M, hMl, hE, hS, hB⟩ := HO.out
      have : M = C := evs_ext hMl (fun i hi => hS i (by rw [hMl, HN.out] at hi; exact hi))
      rw [this] at hE
      have HF : Hid (EL wr g C ∧ Below w.heap.size w wr) := ⟨hE, hB⟩
      clear hE hS hB this HO hMl
      go_wp2_with (fail)
      go_ret
      exact ⟨rfl, HF.out.1, by have := HF.out.2; rw [HG.out] at this; exact this⟩
end Go.Proofs.Ytbbmjfaflcbimaa
