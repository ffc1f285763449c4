/- PairsOrder: for every two slices of pairs the law answers true: a set is the same in whatever order its pairs were put, and what is beyond one or the other is not in both. No conditions. -/
import Derived.Test.YtdnpamgaikeclaaPairJ
namespace Go.Proofs.Ytdnpamgaikeclaa
namespace pairsOrder
open Go.ChangeShapes Go.WideShapes Go.ChangeAt Go.RowKit Go.Shelf
set_option linter.unusedVariables false

theorem own : ownKnob Try.prog.godebug = none := by kernel_rfl
theorem laidOut : laidOutB Try.prog = true := by kernel_rfl

/-- Two rows that are not one. -/
def Apart (a b : Value) : Prop := b.ownBlock = none ∨ b.ownBlock ≠ a.ownBlock
theorem Apart.symm {a b : Value} (h : Apart a b) : Apart b a := by
  unfold Apart at *
  cases ha : a.ownBlock with
  | none => exact Or.inl rfl
  | some k =>
    right
    rcases h with h | h
    · rw [h]; simp
    · exact fun e => h (by rw [ha]; exact e.symm)
theorem row_ne_obj {W : World} {sp base : Nat} {v : Value} {room : Nat} {L : List Pr} {sq : Nat} {x : Array Value} (h : IsSet W sp base v room L) (h' : W.heap[sq]? = some (.cells x 53 (0, 0))) : v.ownBlock ≠ some sq := fun e => by
  rcases h.own.2 with ⟨rfl, _⟩ | ⟨g, cap, cur, rfl, _, hg, _⟩
  · cases e
  · have : g = sq := by simpa [Value.ownBlock] using e
    subst this
    rw [h'] at hg
    simp at hg
/-- Another set stays when one is turned. -/
theorem other {W W' : World} {a b base : Nat} {va va' vb : Value} {ra rb : Nat} {A B : List Pr} (ha : IsSet W a base va ra A) (hb : IsSet W b base vb rb B) (hne : b ≠ a) (hap : Apart va vb) (hc : Ch W W' a va.ownBlock)
    (hv : va'.ownBlock = va.ownBlock ∨ ∃ g, va'.ownBlock = some g ∧ W.heap.size ≤ g) : IsSet W' b base vb rb B ∧ Apart va' vb := by
  refine ⟨hb.ch hc hne (fun e => row_ne_obj ha hb.obj e.symm) (row_ne_obj hb ha.obj) hap, ?_⟩
  rcases hv with e | ⟨g, e, hg⟩
  · unfold Apart at *; rw [e]; exact hap
  · unfold Apart
    cases hb' : vb.ownBlock with
    | none => exact Or.inl rfl
    | some k =>
      right
      rw [e]
      have := (hb.own.lt k hb').2
      intro e2
      simp only [Option.some.injEq] at e2
      omega

structure Tri (w W : World) (ss tt uu : Nat) (vs vt vu : Value) (A B C : List Pr) : Prop where
  s : IsSet W ss w.heap.size vs 4096 A
  t : IsSet W tt w.heap.size vt 4096 B
  u : IsSet W uu w.heap.size vu 4096 C
  below : Below w.heap.size w W
  st : Apart vs vt
  su : Apart vs vu
  tu : Apart vt vu
theorem Tri.rot {w W : World} {ss tt uu : Nat} {vs vt vu : Value} {A B C : List Pr} (h : Tri w W ss tt uu vs vt vu A B C) : Tri w W tt uu ss vt vu vs B C A := ⟨h.t, h.u, h.s, h.below, h.tu, h.st.symm, h.su.symm⟩
theorem Tri.step {w W V : World} {ss tt uu : Nat} {vs vt vu : Value} {A B C : List Pr} (h : Tri w W ss tt uu vs vt vu A B C) (hb : Below W.heap.size W V) : Tri w V ss tt uu vs vt vu A B C := ⟨h.s.below hb, h.t.below hb, h.u.below hb, h.below.trans (hb.mono h.below.size), h.st, h.su, h.tu⟩
/-- Put into the first of three. -/
theorem Tri.put {w W : World} {ss tt uu : Nat} {vs vt vu : Value} {A B C : List Pr} (h : Tri w W ss tt uu vs vt vu A B C) (h1 : tt ≠ ss) (h2 : uu ≠ ss) (h3 : w.heap.size ≤ ss) (p : Pr) :
    Calls Try.prog 16 #[.pointer (some ⟨ss, 0, none⟩), .agg #[.int .i64 p.a, .int .i64 p.b]] W fun e W' => (∃ (x : Bool) (y : Int), e = .returned (.tuple #[.bool x, .int .i64 y])) ∧ ∃ vs', Tri w W' ss tt uu vs' vt vu (putL 4096 A p) B C := by
  refine (put_any ss w.heap.size vs 4096 A p W h.s h.below.size).mono ?_
  rintro e W' ⟨rfl, v', a, b, c⟩
  obtain ⟨o1, p1⟩ := other h.s h.t h1 h.st b c
  obtain ⟨o2, p2⟩ := other h.s h.u h2 h.su b c
  exact ⟨⟨_, _, rfl⟩, v', a, o1, o2, b.below h.below h.below.size h3 (fun j e => (h.s.own.lt j e).1), p1, p2, h.tu⟩

theorem mem_putL {L : List Pr} {p q : Pr} (hl : L.length < 4096) : q ∈ putL 4096 L p ↔ q ∈ L ∨ (q = p ∧ p.a < p.b) := by
  unfold putL
  by_cases h1 : p.a < p.b
  · by_cases h2 : p ∈ L
    · rw [if_neg (fun h => h.2.1 h2)]
      exact ⟨Or.inl, fun h => h.elim id (fun h => h.1 ▸ h2)⟩
    · rw [if_pos ⟨h1, h2, hl⟩, mem_ins]
      exact ⟨fun h => h.elim (fun e => Or.inr ⟨e, h1⟩) Or.inl, fun h => h.elim Or.inr (fun e => Or.inl e.1)⟩
  · rw [if_neg (fun h => h1 h.1)]
    exact ⟨Or.inl, fun h => h.elim id (fun h => absurd h.2 h1)⟩
theorem putL_len (L : List Pr) (p : Pr) : (putL 4096 L p).length ≤ L.length + 1 := by
  unfold putL
  split
  · rw [ins_length]; omega
  · omega

/-- What was put so far, by f. -/
def Has (A : List Pr) (f : Nat → Pr) (k : Nat) : Prop := A.length ≤ k ∧ ∀ p, p ∈ A ↔ (p.a < p.b ∧ ∃ j, j < k ∧ f j = p)
theorem Has.zero (f : Nat → Pr) : Has [] f 0 := ⟨Nat.le_refl _, fun p => by simp⟩
theorem Has.put {A : List Pr} {f : Nat → Pr} {k : Nat} (h : Has A f k) (hk : k < 500) : Has (putL 4096 A (f k)) f (k + 1) := by
  have hl := h.1
  refine ⟨Nat.le_trans (putL_len _ _) (by omega), fun p => ?_⟩
  rw [mem_putL (by omega), h.2]
  constructor
  · rintro (⟨a, j, b, c⟩ | ⟨rfl, b⟩)
    · exact ⟨a, j, by omega, c⟩
    · exact ⟨b, k, by omega, rfl⟩
  · rintro ⟨a, j, b, c⟩
    by_cases e : j = k
    · subst e; exact Or.inr ⟨c.symm, c ▸ a⟩
    · exact Or.inl ⟨a, j, by omega, c⟩
theorem has_same {A B : List Pr} {l : Nat → Pr} {m : Nat} (ha : Has A l m) (hb : Has B (fun j => l (m - 1 - j)) m) (sa : A.Pairwise Pr.Lt) (sb : B.Pairwise Pr.Lt) : A = B := by
  refine same_of_mem sa sb (fun p => ?_)
  rw [ha.2, hb.2]
  constructor
  · rintro ⟨a, j, b, c⟩
    exact ⟨a, m - 1 - j, by omega, by show l (m - 1 - (m - 1 - j)) = p; rw [show m - 1 - (m - 1 - j) = j by omega]; exact c⟩
  · rintro ⟨a, j, b, c⟩
    exact ⟨a, m - 1 - j, by omega, c⟩
theorem minus_self (A : List Pr) : minus A (some A) = [] := by
  unfold minus
  exact List.filter_eq_nil_iff.2 (fun p hp => by simp [hp])
theorem parts (A C : List Pr) : (minus A (some C)).length + (A.filter (fun q => decide (q ∈ C))).length = A.length := by
  unfold minus
  induction A with
  | nil => rfl
  | cons x r ih =>
    simp only [List.filter_cons]
    by_cases h : x ∈ C <;> simp [h] at * <;> omega
theorem both (A C : List Pr) (ha : A.Pairwise Pr.Lt) (hc : C.Pairwise Pr.Lt) : (A.filter (fun q => decide (q ∈ C))).length = (C.filter (fun q => decide (q ∈ A))).length := by
  rw [same_of_mem (ha.filter _) (hc.filter _) (fun p => ?_)]
  simp only [List.mem_filter, decide_eq_true_eq]
  exact And.comm
theorem counts {L : List Pr} {f : Pr → Bool} {k : Nat} (hk : k < L.length) : ((L.take (k + 1)).filter f).length = ((L.take k).filter f).length + (if f (pt L k) then 1 else 0) := by
  rw [filter_pt hk, List.length_append]
  split <;> simp
theorem minus_mem {A C : List Pr} {k : Nat} (hk : k < (minus A (some C)).length) : pt (minus A (some C)) k ∈ A ∧ pt (minus A (some C)) k ∉ C := by
  have := pt_mem hk
  unfold minus at this
  rw [List.mem_filter] at this
  exact ⟨this.1, of_decide_eq_true this.2⟩

set_option maxRecDepth 100000 in
set_option maxHeartbeats 16000000 in
theorem walk (a : Option Addr) (len cap : Nat) (l : Nat → Pr) (a' : Option Addr) (len' cap' : Nat) (l' : Nat → Pr) (w : World) (hi : In w a len cap l) (hi' : In w a' len' cap' l') :
    Calls Try.prog 4 #[.slice a len cap, .slice a' len' cap'] w fun e w' => e = .returned (.bool true) ∧ Below w.heap.size w w' := by
  obtain ⟨m, hm⟩ : ∃ m : Nat, (if (500 : Int) < (len : Int) then (500 : Int) else (len : Int)) = (m : Int) := ⟨if 500 < len then 500 else len, by split <;> split <;> omega⟩
  obtain ⟨m', hm'⟩ : ∃ m' : Nat, (if (500 : Int) < (len' : Int) then (500 : Int) else (len' : Int)) = (m' : Int) := ⟨if 500 < len' then 500 else len', by split <;> split <;> omega⟩
  have hm1 : m ≤ 500 := by split at hm <;> omega
  have hm2 : m ≤ len := by split at hm <;> omega
  have hm1' : m' ≤ 500 := by split at hm' <;> omega
  have hm2' : m' ≤ len' := by split at hm' <;> omega
  have hlc := hi.le
  have hcm := hi.big
  have hlc' := hi'.le
  have hcm' := hi'.big
  have hmc : m ≤ cap := by omega
  have hmc' : m' ≤ cap' := by omega
  have HIN : Hid _ := hi.at_
  have HIN' : Hid _ := hi'.at_
  clear hi hi'
  go_enter Try.func4, Try.ntmps4
  go_wp2_with (fail)
  refine (awake_any _).mono ?_
  rintro e W1 ⟨rfl, hb1⟩
  have HB1 : Hid (Below w.heap.size w W1) := hb1
  clear hb1
  go_wp2_with (fail)
  refine (new_yes 4096 w.heap.size W1 (by omega) (by omega)).mono ?_
  rintro e W2 ⟨ss, rfl, hss0, hs, hb⟩
  have hss : w.heap.size ≤ ss := Nat.le_trans HB1.out.size hss0
  have HB : Hid (Below w.heap.size w W2) := HB1.out.trans (hb.mono HB1.out.size)
  have hsl : ss < W2.heap.size := hs.lt
  have HS : Hid _ := hs
  clear hs hb hss0 HB1
  go_wp2_with (fail)
  refine (new_yes 4096 w.heap.size W2 (by omega) (by omega)).mono ?_
  rintro e W3 ⟨tt, rfl, htt0, ht, hb⟩
  have htt : w.heap.size ≤ tt := Nat.le_trans HB.out.size htt0
  have HS3 : Hid _ := HS.out.below hb
  have HB3 : Hid (Below w.heap.size w W3) := HB.out.trans (hb.mono HB.out.size)
  have hst : tt ≠ ss := by omega
  have htl : tt < W3.heap.size := ht.lt
  have hsl3 : ss < W3.heap.size := Nat.lt_of_lt_of_le hsl hb.size
  have HT : Hid _ := ht
  clear ht hb HS HB
  go_wp2_with (fail)
  refine (new_yes 4096 w.heap.size W3 (by omega) (by omega)).mono ?_
  rintro e W4 ⟨uu, rfl, huu0, hu, hb⟩
  have huu : w.heap.size ≤ uu := Nat.le_trans HB3.out.size huu0
  have TR : Hid (Tri w W4 ss tt uu (.slice none 0 0) (.slice none 0 0) (.slice none 0 0) [] [] []) := ⟨HS3.out.below hb, HT.out.below hb, hu, HB3.out.trans (hb.mono HB3.out.size), Or.inl rfl, Or.inl rfl, Or.inl rfl⟩
  have hsu : uu ≠ ss := by omega
  have htu : uu ≠ tt := by omega
  have hu1 : uu ≠ tt := htu
  clear hu hb HS3 HB3 HT htl hsl hsl3 huu0 htt0
  go_wp2_with (fail)
  clear hm hm'
  go_loopw [12] (fun i wr => ∃ (k : Nat) (vs vt : Value) (A B : List Pr), i = .int .i64 (k : Int) ∧ k ≤ m ∧ Hid (Has A l k) ∧ Hid (Has B (fun j => l (m - 1 - j)) k) ∧ Hid (Tri w wr ss tt uu vs vt (.slice none 0 0) A B [])) (fun i _ => m - (intOf i).toNat)
  case atStart => exact ⟨0, _, _, [], [], rfl, Nat.zero_le _, Has.zero _, Has.zero _, TR⟩
  case round =>
    clear TR
    obtain ⟨k, vs, vt, A, B, rfl, hk, HA, HB, TR⟩ := hrel
    by_cases hlt : k < m
    · rcases HIN.out with h0 | ⟨b, off, rfl, hc⟩
      · omega
      · obtain ⟨c0, c1⟩ := hc k (by omega)
        obtain ⟨j, hj⟩ : ∃ j : Nat, j = m - 1 - k := ⟨_, rfl⟩
        obtain ⟨d0, d1⟩ := hc j (by omega)
        have c0 := (TR.out.below.cell (World.block_lt_of_cell? _ _ c0)).trans c0
        have c1 := (TR.out.below.cell (World.block_lt_of_cell? _ _ c1)).trans c1
        have hx1 : (m : Int) - 1 - (k : Int) = (j : Int) := by omega
        have hjm : j < m := by omega
        have HP : Hid _ := TR.out.put hst hsu hss (l k)
        have HA' : Hid (Has (putL 4096 A (l k)) l (k + 1)) := HA.out.put (by omega)
        have HB' : Hid (Has (putL 4096 B (l j)) (fun j => l (m - 1 - j)) (k + 1)) := by rw [hj]; exact HB.out.put (f := fun j => l (m - 1 - j)) (by omega)
        have hbw : b < w.heap.size := World.block_lt_of_cell? _ _ d0
        obtain ⟨p, hp⟩ : ∃ p, p = l k := ⟨_, rfl⟩
        obtain ⟨q, hq⟩ : ∃ q, q = l j := ⟨_, rfl⟩
        rw [← hp] at c0 c1 HP HA'
        rw [← hq] at d0 d1 HB'
        clear hp hq hj hc TR HA HB
        go_wp2_with (fail)
        refine Calls.mono HP.out ?_
        clear HP
        rintro e V1 ⟨⟨x, y, rfl⟩, vs1, tr1⟩
        have HP : Hid _ := tr1.rot.put hu1 hst.symm htt q
        have d0 := (tr1.below.cell hbw).trans d0
        have d1 := (tr1.below.cell hbw).trans d1
        clear tr1 c0 c1
        go_wp2_with (fail)
        refine Calls.mono HP.out ?_
        clear HP
        rintro e V2 ⟨⟨x2, y2, rfl⟩, vt1, tr2⟩
        have TR2 : Hid _ := tr2.rot.rot
        clear tr2 d0 d1
        go_wp2_with (fail)
        go_roundw
        case rel => exact ⟨k + 1, vs1, vt1, _, _, by go_num, by omega, HA', HB', TR2⟩
        case measure => simp [intOf]; omega
    · obtain rfl : k = m := by omega
      have HAB : Hid (A = B) := has_same HA.out HB.out TR.out.s.sorted TR.out.t.sorted
      have HAL : Hid (A.length ≤ 500) := Nat.le_trans HA.out.1 hm1
      clear HA HB
      go_wp2_with (fail)
      go_loopw [13] (fun i wr => ∃ (k : Nat) (vu : Value) (C : List Pr), i = .int .i64 (k : Int) ∧ k ≤ m' ∧ Hid (C.length ≤ k) ∧ Hid (Tri w wr ss tt uu vs vt vu A B C)) (fun i _ => m' - (intOf i).toNat)
      case atStart => exact ⟨0, _, [], rfl, Nat.zero_le _, Nat.le_refl _, TR⟩
      case round =>
        clear TR
        obtain ⟨k', vu, C, rfl, hk', HCL, TR⟩ := hrel
        by_cases hlt' : k' < m'
        · rcases HIN'.out with h0 | ⟨b, off, rfl, hc⟩
          · omega
          · obtain ⟨c0, c1⟩ := hc k' (by omega)
            have c0 := (TR.out.below.cell (World.block_lt_of_cell? _ _ c0)).trans c0
            have c1 := (TR.out.below.cell (World.block_lt_of_cell? _ _ c1)).trans c1
            have HP : Hid _ := TR.out.rot.rot.put hsu.symm htu.symm huu (l' k')
            have HCL' : Hid ((putL 4096 C (l' k')).length ≤ k' + 1) := Nat.le_trans (putL_len _ _) (by have := HCL.out; omega)
            obtain ⟨p, hp⟩ : ∃ p, p = l' k' := ⟨_, rfl⟩
            rw [← hp] at c0 c1 HP HCL'
            clear hp hc TR HCL
            go_wp2_with (fail)
            refine Calls.mono HP.out ?_
            clear HP
            rintro e V1 ⟨⟨x, y, rfl⟩, vu1, tr1⟩
            have TR2 : Hid _ := tr1.rot
            clear tr1 c0 c1
            go_wp2_with (fail)
            go_roundw
            case rel => exact ⟨k' + 1, vu1, _, by go_num, by omega, HCL', TR2⟩
            case measure => simp [intOf]; omega
        · obtain rfl : k' = m' := by omega
          go_wp2_with (fail)
          refine (all_any ss w.heap.size vs 4096 A wr TR.out.s).mono ?_
          rintro e V3 ⟨ua, rfl, hua, hb3⟩
          obtain ⟨oa, ca, rfl⟩ := row_form hua
          have TR3 : Hid _ := TR.out.step hb3
          have LA : Hid _ := Lies.of_row hua
          clear hua hb3 TR
          obtain ⟨oa', ca', ea, hla, hcma, hcella⟩ := LA.out.form
          simp only [Value.slice.injEq, true_and] at ea
          obtain ⟨rfl, rfl⟩ := ea
          have HCA : Hid _ := hcella
          have hal := HAL.out
          clear hcella
          go_wp2_with (fail)
          go_loopw [15] (fun i wr => ∃ (j : Nat), i = .int .i64 ((j : Int) + 1) ∧ (j = 0 ∨ j + 1 ≤ A.length) ∧ Hid (Below V3.heap.size V3 wr)) (fun i _ => A.length - (intOf i).toNat)
          case atStart => exact ⟨0, rfl, Or.inl rfl, Below.refl _ _⟩
          case round =>
            obtain ⟨j, rfl, hj, HB⟩ := hrel
            by_cases hlt3 : j + 1 < A.length
            · obtain ⟨g, off, rfl, x0, x1⟩ := HCA.out (j + 1) hlt3
              obtain ⟨g', off', e', y0, y1⟩ := HCA.out j (by omega)
              simp only [Option.some.injEq, Addr.mk.injEq, and_true] at e'
              obtain ⟨rfl, rfl⟩ := e'
              have x0 := (HB.out.cell (World.block_lt_of_cell? _ _ x0)).trans x0
              have x1 := (HB.out.cell (World.block_lt_of_cell? _ _ x1)).trans x1
              have y0 := (HB.out.cell (World.block_lt_of_cell? _ _ y0)).trans y0
              have y1 := (HB.out.cell (World.block_lt_of_cell? _ _ y1)).trans y1
              have hLt := pt_lt TR3.out.s.sorted (i := j) (j := j + 1) (by omega) hlt3
              unfold Pr.Lt at hLt
              have hjx : (j : Int) + 1 - 1 = (j : Int) := by omega
              have hjt : ((j : Int) + 1).toNat = j + 1 := by omega
              have hj0 : (0 : Int) ≤ (j : Int) + 1 := by omega
              have hj1 : (j : Int) + 1 < (A.length : Int) := by omega
              have hj2 : (j : Int) < (A.length : Int) := by omega
              have hj3 : j < A.length := by omega
              generalize (pt A j).a = ja at *
              generalize (pt A j).b = jb at *
              generalize (pt A (j + 1)).a = ka at *
              generalize (pt A (j + 1)).b = kb at *
              rcases hLt with hLt | ⟨rfl, hLt⟩
              · have z1 : ¬ ka < ja := by omega
                have z2 : (ka == ja) = false := beq_eq_false_iff_ne.2 (by omega)
                have zb : decide (ka < ja) = false := decide_eq_false z1
                clear z1 hLt
                go_wp2_with (fail)
                go_quiet (fail)
                go_wp2_with (fail)
                go_roundw
                case rel => exact ⟨j + 1, by go_num, Or.inr (by omega), HB.out.trans ⟨rfl, rfl, rfl, Nat.le_refl _, fun _ _ => rfl⟩⟩
                case measure => simp [intOf]; omega
              · have z1 : ¬ kb ≤ jb := by omega
                go_wp2_with (fail)
                go_quiet (fail)
                go_wp2_with (fail)
                go_roundw
                case rel => exact ⟨j + 1, by go_num, Or.inr (by omega), HB.out.trans ⟨rfl, rfl, rfl, Nat.le_refl _, fun _ _ => rfl⟩⟩
                case measure => simp [intOf]; omega
            · have hjge : ¬ (j : Int) + 1 < (A.length : Int) := by omega
              have TR4 : Hid _ := TR3.out.step HB.out
              have LA4 : Hid _ := LA.out.below HB.out
              clear TR3 LA HCA HB
              go_wp2_with (fail)
              refine (beyond_some ss w.heap.size vs 4096 A uu w.heap.size vu 4096 C wr TR4.out.s TR4.out.u).mono ?_
              rintro e V5 ⟨ux, rfl, hux, hb5⟩
              obtain ⟨ox, cx, rfl⟩ := row_form hux
              have TR5 : Hid _ := TR4.out.step hb5
              have LA5 : Hid _ := LA4.out.below hb5
              have LX5 : Hid _ := Lies.of_row hux
              clear hux hb5 TR4 LA4
              go_wp2_with (fail)
              refine (beyond_some uu w.heap.size vu 4096 C ss w.heap.size vs 4096 A V5 TR5.out.u TR5.out.s).mono ?_
              rintro e V6 ⟨uy, rfl, huy, hb6⟩
              obtain ⟨oy, cy, rfl⟩ := row_form huy
              have TR6 : Hid _ := TR5.out.step hb6
              have LA6 : Hid _ := LA5.out.below hb6
              have LX6 : Hid _ := LX5.out.below hb6
              clear huy hb6 TR5 LA5 LX5
              obtain ⟨ox', cx', ex, hlx, hcmx, hcellx⟩ := LX6.out.form
              simp only [Value.slice.injEq, true_and] at ex
              obtain ⟨rfl, rfl⟩ := ex
              have HCX : Hid _ := hcellx
              have hxl0 := minus_length A (some C)
              have hyl0 := minus_length C (some A)
              have HPX := parts A C
              have HPY := parts C A
              rw [← both A C TR6.out.s.sorted TR6.out.u.sorted] at HPY
              have HMM : Hid (∀ k, k < (minus A (some C)).length → pt (minus A (some C)) k ∈ A ∧ pt (minus A (some C)) k ∉ C) := fun k hk => minus_mem hk
              clear hcellx
              obtain ⟨X, hX⟩ : ∃ X, X = minus A (some C) := ⟨_, rfl⟩
              obtain ⟨yl, hyl⟩ : ∃ n, n = (minus C (some A)).length := ⟨_, rfl⟩
              obtain ⟨nn, hnn⟩ : ∃ n, n = (A.filter (fun q => decide (q ∈ C))).length := ⟨_, rfl⟩
              rw [← hX] at HMM HCX LX6 HPX hxl0 hlx ⊢
              rw [← hyl] at HPY hyl0 ⊢
              rw [← hnn] at HPX HPY
              have HNN : Hid _ := hnn
              clear hX hyl hnn
              go_wp2_with (fail)
              go_loopw [18] (fun i wr => ∃ (k : Nat), i = .int .i64 (k : Int) ∧ k ≤ X.length ∧ Hid (Below V6.heap.size V6 wr)) (fun i _ => X.length - (intOf i).toNat)
              case atStart => exact ⟨0, rfl, Nat.zero_le _, Below.refl _ _⟩
              case round =>
                obtain ⟨k, rfl, hkx, HB⟩ := hrel
                by_cases hlt4 : k < X.length
                · obtain ⟨g, off, rfl, x0, x1⟩ := HCX.out k hlt4
                  have x0 := (HB.out.cell (World.block_lt_of_cell? _ _ x0)).trans x0
                  have x1 := (HB.out.cell (World.block_lt_of_cell? _ _ x1)).trans x1
                  have TR7 : Hid _ := TR6.out.step HB.out
                  have H1 : Hid (Calls Try.prog 19 #[.pointer (some ⟨ss, 0, none⟩), .agg #[.int .i64 (pt X k).a, .int .i64 (pt X k).b]] wr fun e W => e = .returned (.bool true) ∧ Below wr.heap.size wr W) := by
                    have := has_any ss w.heap.size vs 4096 A (pt X k) wr TR7.out.s
                    rw [decide_eq_true (HMM.out k hlt4).1] at this
                    exact this
                  have H2 : Hid (∀ W : World, Below wr.heap.size wr W → Calls Try.prog 19 #[.pointer (some ⟨uu, 0, none⟩), .agg #[.int .i64 (pt X k).a, .int .i64 (pt X k).b]] W fun e W' => e = .returned (.bool false) ∧ Below W.heap.size W W') := fun W hW => by
                    have := has_any uu w.heap.size vu 4096 C (pt X k) W (TR7.out.u.below hW)
                    rw [decide_eq_false (HMM.out k hlt4).2] at this
                    exact this
                  clear TR7
                  have hgw : g < wr.heap.size := World.block_lt_of_cell? _ _ x0
                  generalize (pt X k).a = ma at *
                  generalize (pt X k).b = mb at *
                  go_wp2_with (fail)
                  refine Calls.mono H1.out ?_
                  clear H1
                  rintro e V7 ⟨rfl, hb7⟩
                  have y0 := (hb7.cell (p := ⟨g, off + k * 2, none⟩) hgw).trans x0
                  have y1 := (hb7.cell (p := ⟨g, off + k * 2 + 1, none⟩) hgw).trans x1
                  have HP : Hid _ := H2.out V7 hb7
                  have HB7 : Hid _ := HB.out.trans (hb7.mono HB.out.size)
                  clear H2 hb7 x0 x1
                  go_wp2_with (fail)
                  refine Calls.mono HP.out ?_
                  clear HP
                  rintro e V8 ⟨rfl, hb8⟩
                  have HB8 : Hid _ := HB7.out.trans (hb8.mono HB7.out.size)
                  clear hb8 HB7 y0 y1
                  go_wp2_with (fail)
                  go_roundw
                  case rel => exact ⟨k + 1, by go_num, by omega, HB8⟩
                  case measure => simp [intOf]; omega
                · obtain rfl : k = X.length := by omega
                  have TR7 : Hid _ := TR6.out.step HB.out
                  have LA7 : Hid _ := LA6.out.below HB.out
                  clear TR6 LA6 LX6 HCX HMM HB
                  obtain ⟨oa', ca', ea, hla, hcma, hcella⟩ := LA7.out.form
                  simp only [Value.slice.injEq, true_and] at ea
                  obtain ⟨rfl, rfl⟩ := ea
                  have HCA : Hid _ := hcella
                  clear hcella
                  go_wp2_with (fail)
                  obtain ⟨V9, hV9⟩ : ∃ V, V = wr := ⟨_, rfl⟩
                  rw [← hV9] at TR7 LA7 HCA ⊢
                  clear hV9
                  go_loopw [19, 20] (fun n i wr => ∃ (c k : Nat), i = .int .i64 (k : Int) ∧ n = .int .i64 (c : Int) ∧ k ≤ A.length ∧ c ≤ k ∧ Hid (c = ((A.take k).filter (fun q => decide (q ∈ C))).length) ∧ Hid (Below V9.heap.size V9 wr)) (fun _ i _ => A.length - (intOf i).toNat)
                  case atStart => exact ⟨0, 0, rfl, rfl, Nat.zero_le _, Nat.zero_le _, by show 0 = _; simp, Below.refl _ _⟩
                  case round =>
                    obtain ⟨c, k, rfl, rfl, hka, hck, HN, HB⟩ := hrel
                    by_cases hlt5 : k < A.length
                    · obtain ⟨g, off, rfl, x0, x1⟩ := HCA.out k hlt5
                      have x0 := (HB.out.cell (World.block_lt_of_cell? _ _ x0)).trans x0
                      have x1 := (HB.out.cell (World.block_lt_of_cell? _ _ x1)).trans x1
                      have H1 : Hid (Calls Try.prog 19 #[.pointer (some ⟨uu, 0, none⟩), .agg #[.int .i64 (pt A k).a, .int .i64 (pt A k).b]] wr fun e W => e = .returned (.bool (decide (pt A k ∈ C))) ∧ Below wr.heap.size wr W) := has_any uu w.heap.size vu 4096 C (pt A k) wr (TR7.out.step HB.out).u
                      have HNX : Hid ((c + if decide (pt A k ∈ C) then 1 else 0) = ((A.take (k + 1)).filter (fun q => decide (q ∈ C))).length) := by
                        show _ = _
                        rw [counts hlt5, ← HN.out]
                      generalize hd : decide (pt A k ∈ C) = dd at *
                      clear hd
                      generalize (pt A k).a = ma at *
                      generalize (pt A k).b = mb at *
                      go_wp2_with (fail)
                      refine Calls.mono H1.out ?_
                      clear H1
                      rintro e V7 ⟨rfl, hb7⟩
                      have HB7 : Hid _ := HB.out.trans (hb7.mono HB.out.size)
                      clear hb7
                      cases dd with
                      | true =>
                        go_wp2_with (fail)
                        go_roundw
                        case rel => exact ⟨c + 1, k + 1, by go_num, by go_num, by omega, by omega, by show _ = _; have := HNX.out; simpa using this, HB7⟩
                        case measure => simp [intOf]; omega
                      | false =>
                        go_wp2_with (fail)
                        go_roundw
                        case rel => exact ⟨c, k + 1, by go_num, rfl, by omega, by omega, by show _ = _; have := HNX.out; simpa using this, HB7⟩
                        case measure => simp [intOf]; omega
                    · obtain rfl : k = A.length := by omega
                      have hcn : c = nn := by have := HN.out; rw [List.take_length, ← HNN.out] at this; exact this
                      have hx1 : (X.length : Int) + (c : Int) = (A.length : Int) := by omega
                      have hx2 : (yl : Int) + (c : Int) = (C.length : Int) := by omega
                      have TR8 : Hid _ := TR7.out.step HB.out
                      have LA8 : Hid _ := LA7.out.below HB.out
                      have hcl9 : C.length ≤ 4096 := Nat.le_trans TR8.out.u.len TR8.out.u.rm
                      clear TR7 LA7 HCA HB HN hcn
                      go_wp2_with (fail)
                      refine (all_any tt w.heap.size vt 4096 B wr TR8.out.t).mono ?_
                      rintro e V10 ⟨ut, rfl, hut, hb10⟩
                      have TR10 : Hid _ := TR8.out.step hb10
                      have LA10 : Hid _ := LA8.out.below hb10
                      have HSM : Hid _ := same_any _ _ A B V10 LA10.out (Lies.of_row hut)
                      rw [decide_eq_true HAB.out] at HSM
                      clear hut hb10 TR8 LA8
                      go_wp2_with (fail)
                      refine Calls.mono HSM.out ?_
                      clear HSM
                      rintro e V11 ⟨rfl, hb11⟩
                      have TR11 : Hid _ := TR10.out.step hb11
                      clear TR10 LA10 hb11
                      go_wp2_with (fail)
                      have HBY := beyond_some ss w.heap.size vs 4096 A tt w.heap.size vt 4096 B V11 TR11.out.s TR11.out.t
                      rw [← HAB.out, minus_self] at HBY
                      refine Calls.mono HBY ?_
                      clear HBY
                      rintro e V12 ⟨uz, rfl, huz, hb12⟩
                      obtain ⟨oz, cz, rfl⟩ := row_form huz
                      have TR12 : Hid _ := TR11.out.step hb12
                      clear huz hb12 TR11
                      go_wp2_with (fail)
                      refine (len_any uu w.heap.size vu 4096 C V12 TR12.out.u).mono ?_
                      rintro e V13 ⟨rfl, rfl⟩
                      go_wp2_with (fail)
                      go_ret
                      exact ⟨rfl, TR12.out.below⟩

/-! ### The row's step, after the guide's template -/
set_option maxRecDepth 100000 in
theorem lifted (os : Os) (started : os.Started) (H : Type) (enc : TypeId × Value → H) :
    ReturnsInHanded {} Try.checked os 4 .any (Rows.pairsOrderSpec.pre6 enc Try.prog Try.f4 Rows.pairsOrderRow.domain false) (Rows.pairsOrderSpec.post enc Try.prog Try.f4 false true false false) := by
  refine returnsInHanded_of_change (C := Try.checked) own started (by kernel_rfl) Try.func4
    (ChangeSpec.witness6 (enc := enc) (C := Try.checked) false ⟨#[], #[.slice none 0 0, .slice none 0 0], []⟩ 8 (by kernel_rfl) (by kernel_rfl) (by kernel_rfl) (by kernel_rfl)) ?_
  intro W base args ds gs before hval0 hW hcnd _
  have hval : ∀ (j : Nat) t v, Try.f4.params[j]? = some t → args[j]? = some v → Value.okWide Try.prog W .any base t v := hval0
  have hW' := hW
  obtain ⟨p, q, hA0, hV, rfl, hfz, hnd⟩ := hW
  have hA : DataW.TrodAll enc Try.prog W 0 (fun _ => true) true Try.f4.params.toList args.toList ds p := hA0
  rw [Try.params4] at hA hval
  obtain ⟨v0, vs0, d0, ds0, p0, q0, hargs, rfl, rfl, h0, r0⟩ := trodAll_cons hA
  obtain ⟨v1, vs1, d1, ds1, p1, q1, rfl, rfl, rfl, h1, r1⟩ := trodAll_cons r0
  obtain ⟨rfl, rfl, rfl⟩ := trodAll_nil r1
  obtain rfl : args = #[v0, v1] := by cases args; simp_all
  obtain ⟨rfl, rfl⟩ := trodVars_none hV
  obtain ⟨a0, len0, cap0, rfl⟩ := okWide_slice Try.underlying43 (hval 0 43 v0 rfl rfl)
  obtain ⟨a1, len1, cap1, rfl⟩ := okWide_slice Try.underlying43 (hval 1 43 v1 rfl rfl)
  have k0 := h0
  have k1 := h1
  have lt0 : ∀ x ∈ p0, x.block < W.heap.size := by obtain ⟨m, hm⟩ := k0; exact DataW.trod_lt m _ _ _ hm
  have lt1 : ∀ x ∈ p1, x.block < W.heap.size := by obtain ⟨m, hm⟩ := k1; exact DataW.trod_lt m _ _ _ hm
  obtain ⟨fuel, hf⟩ := h0
  obtain ⟨l, hin⟩ := pairs_of (enc := enc) (by simpa [Value.cells] using hf)
  obtain ⟨fuel1, hf1⟩ := h1
  obtain ⟨l', hin'⟩ := pairs_of (enc := enc) (by simpa [Value.cells] using hf1)
  clear hA0 hval0
  refine (walk a0 len0 cap0 l a1 len1 cap1 l' W hin hin').mono fun e W' ⟨he, bel⟩ => ?_
  subst he
  exact ⟨_, rfl, _, _, _, [], _, [], hW', trodAll_mk1 (shut_bool Try.underlying4 _), (trodAll_cons_mk (Below.trod laidOut (by kernel_rfl) (of_decide_eq_true (by kernel_rfl)) k0 bel lt0) (trodAll_cons_mk (Below.trod laidOut (by kernel_rfl) (of_decide_eq_true (by kernel_rfl)) k1 bel lt1) trodAll_mk0)), rfl, bel.frame _, fun h => by cases h⟩

theorem over : Rows.pairsOrderRow.holds Try.pinned (OpenSpec.ofChange Rows.pairsOrderSpec) :=
  OpenClaim.holds_of_wide 4 Try.f4 rfl rfl rfl rfl rfl rfl rfl ⟨rfl, rfl, rfl, rfl, rfl⟩ rfl rfl rfl rfl rfl (by kernel_rfl) Try.func4 (by kernel_rfl)
    (of_decide_eq_true (by kernel_rfl)) (by unfold Func.isWrapper; first | (rw [if_pos (by decide +kernel)]; kernel_rfl) | (rw [if_neg (by decide +kernel)]; exact ⟨rfl, rfl⟩))
    (fun os started H enc _ => lifted os started H enc)

end pairsOrder

theorem pairsOrder_holds : Rows.PairsOrderSaid := pairsOrder.over
#print axioms pairsOrder_holds
end Go.Proofs.Ytdnpamgaikeclaa
