/- The reference's Put. -/
import Derived.Test.YtbbmjfaflcbimaaPairS
namespace Go.Proofs.Ytbbmjfaflcbimaa
open Go.RowKit Go.Shelf
set_option linter.unusedVariables false

theorem ins_done {p : Pr} : ∀ {A B : List Pr}, (∃ q, q ∈ A ∧ ¬ q.Lt p) → ins p (A ++ B) = ins p A ++ B
  | [], B, h => by obtain ⟨q, h, _⟩ := h; simp at h
  | x :: r, B, h => by
    simp only [List.cons_append, ins]
    split
    · rename_i hx
      rw [ins_done (A := r)]
      · rfl
      · obtain ⟨q, hq, hn⟩ := h
        rcases List.mem_cons.1 hq with rfl | hq
        · exact absurd hx hn
        · exact ⟨q, hq, hn⟩
    · rfl
theorem ins_all {p : Pr} : ∀ {A B : List Pr}, (∀ q, q ∈ A → q.Lt p) → ins p (A ++ B) = A ++ ins p B
  | [], B, h => rfl
  | x :: r, B, h => by
    simp only [List.cons_append, ins, h x (by simp), if_true]
    rw [ins_all (A := r) (fun q hq => h q (by simp [hq]))]

/-- What was written so far. -/
def Mid (p : Pr) (L : List Pr) (k : Nat) (put : Bool) (M : List Pr) : Prop :=
  (put = false ∧ M = L.take k ∧ ∀ q, q ∈ L.take k → q.Lt p) ∨ (put = true ∧ M = ins p (L.take k) ∧ ∃ q, q ∈ L.take k ∧ ¬ q.Lt p)
theorem take_pt {L : List Pr} {k : Nat} (hk : k < L.length) : L.take (k + 1) = L.take k ++ [pt L k] := by
  rw [List.take_succ_eq_append_getElem hk]
  congr 1
  unfold pt
  rw [List.getElem?_eq_getElem hk]
  rfl
theorem mid_len {p : Pr} {L : List Pr} {k : Nat} {b : Bool} {M : List Pr} (h : Mid p L k b M) (hk : k ≤ L.length) : M.length ≤ k + 1 := by
  rcases h with ⟨_, rfl, _⟩ | ⟨_, rfl, _⟩
  · simp; omega
  · rw [ins_length]; simp; omega
theorem mid_put {p : Pr} {L : List Pr} {k : Nat} {M : List Pr} (h : Mid p L k false M) (hk : k < L.length) (ha : p.Lt (pt L k)) : Mid p L (k + 1) true (M ++ [p] ++ [pt L k]) := by
  rcases h with ⟨_, rfl, hall⟩ | ⟨e, _⟩
  · have hn : ¬ (pt L k).Lt p := fun hc => Lt.irrefl p (Lt.trans ha hc)
    refine Or.inr ⟨rfl, ?_, pt L k, ?_, hn⟩
    · rw [take_pt hk, ins_all hall]
      simp [ins, hn]
    · rw [take_pt hk]; simp
  · cases e
theorem mid_go {p : Pr} {L : List Pr} {k : Nat} {b : Bool} {M : List Pr} (h : Mid p L k b M) (hk : k < L.length) (hne : pt L k ≠ p) (ha : b = true ∨ ¬ p.Lt (pt L k)) : Mid p L (k + 1) b (M ++ [pt L k]) := by
  rcases h with ⟨rfl, rfl, hall⟩ | ⟨rfl, rfl, q, hq, hn⟩
  · have ha' : ¬ p.Lt (pt L k) := ha.resolve_left (by simp)
    have hlt : (pt L k).Lt p := Classical.byContradiction fun hc => hne (Lt.total hc ha')
    refine Or.inl ⟨rfl, take_pt hk ▸ rfl, fun q hq => ?_⟩
    rw [take_pt hk] at hq
    rcases List.mem_append.1 hq with h | h
    · exact hall q h
    · simp at h; rw [h]; exact hlt
  · refine Or.inr ⟨rfl, ?_, q, ?_, hn⟩
    · rw [take_pt hk, ins_done ⟨q, hq, hn⟩]
    · rw [take_pt hk]; exact List.mem_append_left _ hq

theorem less_any (p q : Pr) (w : World) : Calls Try.prog 34 #[p.v, q.v] w fun e W => e = .returned (.bool (decide (p.Lt q))) ∧ Below w.heap.size w W := by
  obtain ⟨pa, pb⟩ := p
  obtain ⟨qa, qb⟩ := q
  have hB : Below w.heap.size w ((w.alloc (.cells #[.int .i64 pa, .int .i64 pb] 60)).alloc (.cells #[.int .i64 qa, .int .i64 qb] 60)) := ((Below.refl _ w).alloc (Nat.le_refl _) _).alloc (by simp) _
  unfold Pr.v Pr.Lt
  by_cases h : pa < qa
  · have e : decide (pa < qa ∨ pa = qa ∧ pb < qb) = true := decide_eq_true (Or.inl h)
    rw [e]
    clear e
    go_enter Try.func34, Try.ntmps34
    go_wp2
    go_ret
    exact ⟨rfl, hB⟩
  · by_cases h2 : pa = qa
    · subst h2
      go_enter Try.func34, Try.ntmps34
      go_wp2
      go_ret
      exact ⟨by simp, hB⟩
    · have h3 : (pa == qa) = false := beq_eq_false_iff_ne.2 h2
      have e : decide (pa < qa ∨ pa = qa ∧ pb < qb) = false := decide_eq_false (fun hc => hc.elim h (fun hh => h2 hh.1))
      rw [e]
      clear e
      go_enter Try.func34, Try.ntmps34
      go_wp2
      go_ret
      exact ⟨rfl, hB⟩

def pf (p : Pr) (L : List Pr) (k : Nat) : Bool := (L.take k).any (fun q => decide (¬ q.Lt p))
def mid (p : Pr) (L : List Pr) (k : Nat) : List Pr := if pf p L k then ins p (L.take k) else L.take k
theorem mid_det {p : Pr} {L : List Pr} {k : Nat} {b : Bool} {M : List Pr} (h : Mid p L k b M) : b = pf p L k ∧ M = mid p L k := by
  rcases h with ⟨rfl, rfl, hall⟩ | ⟨rfl, rfl, q, hq, hn⟩
  · have e : pf p L k = false := by
      unfold pf
      rw [List.any_eq_false]
      intro q hq
      simp [hall q hq]
    unfold mid
    rw [e]
    exact ⟨rfl, by simp⟩
  · have e : pf p L k = true := by
      unfold pf
      rw [List.any_eq_true]
      exact ⟨q, hq, decide_eq_true hn⟩
    unfold mid
    rw [e]
    exact ⟨rfl, by simp⟩
theorem mid_self (p : Pr) (L : List Pr) (k : Nat) : Mid p L k (pf p L k) (mid p L k) := by
  cases e : pf p L k with
  | false =>
    refine Or.inl ⟨rfl, by unfold mid; rw [e]; simp, fun q hq => Classical.byContradiction fun hn => ?_⟩
    unfold pf at e
    rw [List.any_eq_false] at e
    exact e q hq (decide_eq_true hn)
  | true =>
    refine Or.inr ⟨rfl, by unfold mid; rw [e]; simp, ?_⟩
    unfold pf at e
    rw [List.any_eq_true] at e
    obtain ⟨q, hq, hn⟩ := e
    exact ⟨q, hq, of_decide_eq_true hn⟩

set_option maxHeartbeats 8000000 in
set_option maxRecDepth 100000 in
theorem rput_any (rp base : Nat) (v : Value) (room : Nat) (L : List Pr) (p : Pr) (w : World) (hs : IsRef w rp base v room L) (hbase : base ≤ w.heap.size) :
    Calls Try.prog 23 #[.pointer (some ⟨rp, 0, none⟩), p.v] w fun e W => e = .returned (.tuple #[.bool (putN room L p), .int .i64 (putE room L p)]) ∧ ∃ v', IsRef W rp base v' room (putL room L p) ∧ Ch w W rp none ∧ (v'.ownBlock = v.ownBlock ∨ v'.ownBlock = none ∨ ∃ g, v'.ownBlock = some g ∧ w.heap.size ≤ g) := by
  obtain ⟨pa, pb⟩ := p
  obtain ⟨i0, hii, hiz, hisz, hib⟩ := info_parts pair_info
  have HI : Hid _ := And.intro hii (And.intro hiz (And.intro hisz hib))
  clear hii hiz hisz hib
  have hB0 : Below w.heap.size w (w.alloc (.cells #[.int .i64 pa, .int .i64 pb] 60)) := (Below.refl _ w).alloc (Nat.le_refl _) _
  have HH : Hid (Calls Try.prog 33 #[.pointer (some ⟨rp, 0, none⟩), .agg #[.int .i64 pa, .int .i64 pb]] (w.alloc (.cells #[.int .i64 pa, .int .i64 pb] 60)) fun e W => e = .returned (.bool (decide ((⟨pa, pb⟩ : Pr) ∈ L))) ∧ Below (w.heap.size + 1) (w.alloc (.cells #[.int .i64 pa, .int .i64 pb] 60)) W) := by
    have := rhas_any rp base v room L ⟨pa, pb⟩ _ (hs.below hB0)
    rw [World.size_alloc] at this
    exact this
  have HS : Hid _ := hs
  clear hs
  unfold Pr.v
  by_cases hab : pa < pb
  · have hab' : ¬ pb ≤ pa := by omega
    by_cases hin : (⟨pa, pb⟩ : Pr) ∈ L
    · have e1 : putL room L ⟨pa, pb⟩ = L := by unfold putL; rw [if_neg (fun h => h.2.1 hin)]
      have e2 : putE room L ⟨pa, pb⟩ = 0 := by unfold putE; rw [if_pos hab, if_pos hin]
      have e3 : putN room L ⟨pa, pb⟩ = false := by unfold putN; exact decide_eq_false (fun h => h.2.1 hin)
      rw [e1, e2, e3]
      rw [decide_eq_true hin] at HH
      clear e1 e2 e3
      go_enter Try.func23, Try.ntmps23
      go_wp2_with (fail)
      refine Calls.mono HH.out ?_
      clear HH
      rintro e W1 ⟨rfl, hb1⟩
      have HB1 : Hid (Below w.heap.size w W1) := hB0.trans (hb1.mono (by omega))
      go_wp2_with (fail)
      go_ret2
      exact ⟨rfl, v, HS.out.below HB1.out, Ch.of_below HB1.out _ _, Or.inl rfl⟩
    · rw [decide_eq_false hin] at HH
      have HN : Hid _ := hin
      by_cases hfull : L.length < room
      · have e1 : putL room L ⟨pa, pb⟩ = ins ⟨pa, pb⟩ L := by unfold putL; rw [if_pos ⟨hab, hin, hfull⟩]
        have e2 : putE room L ⟨pa, pb⟩ = 0 := by unfold putE; rw [if_pos hab, if_neg hin, if_pos hfull]
        have e3 : putN room L ⟨pa, pb⟩ = true := by unfold putN; exact decide_eq_true ⟨hab, hin, hfull⟩
        rw [e1, e2, e3]
        clear e1 e2 e3 hin
        have hfi : ¬ (room : Int) ≤ (L.length : Int) := by omega
        go_enter Try.func23, Try.ntmps23
        go_wp2_with (fail)
        refine Calls.mono HH.out ?_
        clear HH
        rintro e W1 ⟨rfl, hb1⟩
        have hB1 : Below w.heap.size w W1 := hB0.trans (hb1.mono (by omega))
        have b0 : W1.cell? ⟨w.heap.size, 0, none⟩ = some (.int .i64 pa) := (hb1.cell (by simp)).trans (by simp [go_sem])
        have b1 : W1.cell? ⟨w.heap.size, 1, none⟩ = some (.int .i64 pb) := (hb1.cell (by simp)).trans (by simp [go_sem])
        have hbx : w.heap.size < W1.heap.size := Nat.lt_of_lt_of_le (Nat.lt_succ_self _) (by have := hb1.size; simpa using this)
        have hS1 := HS.out.below hB1
        have hrl := hS1.lt
        have hlen := hS1.len
        have hrm := hS1.rm
        obtain ⟨o, cap, hlv, hlc, hcm, hcell⟩ := (Lies.of_row hS1.own).form
        have c0 := hS1.c0
        have c1 := hS1.c1
        have f0 := hS1.f0 0
        rw [hlv] at c0
        have HC : Hid _ := hcell
        have HS1 : Hid _ := hS1
        have HB1 : Hid _ := hB1
        clear hS1 hcell hlv hb1 hB1 hB0
        go_wp2_with (fail)
        go_quiet (fail)
        obtain ⟨V1, hV1⟩ : ∃ V, V = W1.drewN nq := ⟨_, rfl⟩
        rw [← hV1]
        have hVB : Below W1.heap.size W1 V1 := by rw [hV1]; exact ⟨rfl, rfl, rfl, Nat.le_refl _, fun _ _ => rfl⟩
        clear hV1
        go_wp2_with (fail)
        go_loopw [7, 8, 9] (fun u b i wr => ∃ k : Nat, i = .int .i64 (k : Int) ∧ b = .bool (pf ⟨pa, pb⟩ L k) ∧ k ≤ L.length ∧ Hid (Row W1 wr u (mid ⟨pa, pb⟩ L k)) ∧ ∃ oo cc, u = .slice oo (mid ⟨pa, pb⟩ L k).length cc) (fun _ _ i _ => L.length - (intOf i).toNat)
        case atStart => exact ⟨0, rfl, rfl, Nat.zero_le _, ⟨World.ownsRow_nil _ _ _ _, hVB⟩, none, 0, rfl⟩
        case round =>
          obtain ⟨k, rfl, rfl, hk, HR, oo, cc, rfl⟩ := hrel
          have HM : Hid (Mid ⟨pa, pb⟩ L k (pf ⟨pa, pb⟩ L k) (mid ⟨pa, pb⟩ L k)) := mid_self _ _ _
          have hMl := mid_len HM.out hk
          generalize pf ⟨pa, pb⟩ L k = put at *
          generalize mid ⟨pa, pb⟩ L k = M at *
          have e0 : wr.cell? ⟨rp, 0, none⟩ = some (.slice o L.length cap) := (HR.out.below.cell hrl).trans c0
          have y0 := (HR.out.below.cell (p := ⟨w.heap.size, 0, none⟩) hbx).trans b0
          have y1 := (HR.out.below.cell (p := ⟨w.heap.size, 1, none⟩) hbx).trans b1
          by_cases hlt : k < L.length
          · obtain ⟨g, off, rfl, X0, X1⟩ := HC.out k hlt
            have hgw : g < W1.heap.size := World.block_lt_of_cell? _ _ X0
            have x0 := (HR.out.below.cell (p := ⟨g, off + k * 2, none⟩) hgw).trans X0
            have x1 := (HR.out.below.cell (p := ⟨g, off + k * 2 + 1, none⟩) hgw).trans X1
            have hne : pt L k ≠ ⟨pa, pb⟩ := fun e => HN.out (e ▸ pt_mem hlt)
            have HL : Hid (∀ W : World, Calls Try.prog 34 #[.agg #[.int .i64 pa, .int .i64 pb], .agg #[.int .i64 (pt L k).a, .int .i64 (pt L k).b]] W fun e W' => e = .returned (.bool (decide ((⟨pa, pb⟩ : Pr).Lt (pt L k)))) ∧ Below W.heap.size W W') := fun W => less_any ⟨pa, pb⟩ (pt L k) W
            have HP1 : Hid (put = false → decide ((⟨pa, pb⟩ : Pr).Lt (pt L k)) = true → Mid ⟨pa, pb⟩ L (k + 1) true (M ++ [⟨pa, pb⟩] ++ [⟨(pt L k).a, (pt L k).b⟩])) := fun e1 e2 => mid_put (e1 ▸ HM.out) hlt (of_decide_eq_true e2)
            have HP2 : Hid (put = true ∨ decide ((⟨pa, pb⟩ : Pr).Lt (pt L k)) = false → Mid ⟨pa, pb⟩ L (k + 1) put (M ++ [⟨(pt L k).a, (pt L k).b⟩])) := fun e => mid_go HM.out hlt hne (e.imp id of_decide_eq_false)
            clear hne HM
            generalize decide ((⟨pa, pb⟩ : Pr).Lt (pt L k)) = dd at *
            generalize (pt L k).a = ma at *
            generalize (pt L k).b = mb at *
            go_wp2_with (fail)
            go_region_with (go_at_call 34; refine (HL.out _).mono ?_; rintro e V0 ⟨rfl, hb0⟩)
            all_goals (
              have HR0 : Hid (Row W1 V0 (.slice oo M.length cc) M) := (HR.out.step ((Below.refl _ wr).drew)).step hb0
              have e0 := (HR0.out.below.cell hrl).trans c0
              have x0 := (HR0.out.below.cell (p := ⟨g, off + k * 2, none⟩) hgw).trans X0
              have x1 := (HR0.out.below.cell (p := ⟨g, off + k * 2 + 1, none⟩) hgw).trans X1
              have y0 := (HR0.out.below.cell (p := ⟨w.heap.size, 0, none⟩) hbx).trans b0
              have y1 := (HR0.out.below.cell (p := ⟨w.heap.size, 1, none⟩) hbx).trans b1
              clear hb0 HL HR
              cases dd with
              | true =>
                cases put with
                | false =>
                  clear HP2
                  go_wp2_with (first | (at_builtin; refine wpList_append_own _ rfl _ _ 50 rfl W1.heap.size 60 i0 _ 2 16 Try.underlying50 HI.out.1 HI.out.2.1 HI.out.2.2.1 HI.out.2.2.2 rfl (by decide) _ _ _ rfl (HR2.out.step ((Below.refl _ V2).alloc (Nat.le_refl _) (.cells #[.int .i64 ma, .int .i64 mb] 60))).row ⟨V2.heap.size, 0, none⟩ 1 1 [.int .i64 ma, .int .i64 mb] rfl rfl (news_at (heap_alloc_new V2 _)) (by intro u hu; simp at hu; rcases hu with rfl | rfl <;> rfl) (by unfold maxLen; simp only [List.length_append, List.length_cons, List.length_nil]; omega) (by simp only [List.length_append, List.length_cons, List.length_nil]; omega) (by have := HR2.out.below.size; simp; omega) ?_; intro u9 V3 r8 g8 _; obtain ⟨gg8, kk8, rfl⟩ := ownsRow_succ r8; have HR3 : Hid _ := (HR2.out.step ((Below.refl _ V2).alloc (Nat.le_refl _) (.cells #[.int .i64 ma, .int .i64 mb] 60))).app (p := ⟨ma, mb⟩) r8 g8; clear r8 g8) | (at_builtin; refine wpList_append_own _ rfl _ _ 50 rfl W1.heap.size 60 i0 _ 2 16 Try.underlying50 HI.out.1 HI.out.2.1 HI.out.2.2.1 HI.out.2.2.2 rfl (by decide) _ _ _ rfl (HR0.out.step ((Below.refl _ V0).alloc (Nat.le_refl _) (.cells #[.int .i64 pa, .int .i64 pb] 60))).row ⟨V0.heap.size, 0, none⟩ 1 1 [.int .i64 pa, .int .i64 pb] rfl rfl (news_at (heap_alloc_new V0 _)) (by intro u hu; simp at hu; rcases hu with rfl | rfl <;> rfl) (by unfold maxLen; omega) (by omega) (by have := HR0.out.below.size; simp; omega) ?_; intro u9 V2 r8 g8 _; obtain ⟨gg8, kk8, rfl⟩ := ownsRow_succ r8; have HR2 : Hid _ := (HR0.out.step ((Below.refl _ V0).alloc (Nat.le_refl _) (.cells #[.int .i64 pa, .int .i64 pb] 60))).app (p := ⟨pa, pb⟩) r8 g8; clear r8 g8; have e0 := (HR2.out.below.cell hrl).trans c0; have x0 := (HR2.out.below.cell hgw).trans X0; have x1 := (HR2.out.below.cell (p := ⟨g, off + k * 2 + 1, none⟩) hgw).trans X1))
                  go_roundw
                  case rel => have HMX : Mid ⟨pa, pb⟩ L (k + 1) true (M ++ [⟨pa, pb⟩] ++ [⟨ma, mb⟩]) := HP1.out (by simp) (by simp); have e1 := (mid_det HMX).1; have e2 := (mid_det HMX).2; refine ⟨_, _, _, ⟨k + 1, ?_, ?_, ?_, ?_, some ⟨gg8, 0, none⟩, kk8, ?_⟩, rfl, rfl, rfl⟩; (go_num); (rw [← e1]); (omega); rotate_left; (rw [← e2]; simp); rw [← e2]; rw [List.length_append] at HR3; exact HR3
                  case measure => simp [intOf]; omega
                | true =>
                  clear HP1
                  go_wp2_with (at_builtin; refine wpList_append_own _ rfl _ _ 50 rfl W1.heap.size 60 i0 _ 2 16 Try.underlying50 HI.out.1 HI.out.2.1 HI.out.2.2.1 HI.out.2.2.2 rfl (by decide) _ _ _ rfl (HR0.out.step ((Below.refl _ V0).alloc (Nat.le_refl _) (.cells #[.int .i64 ma, .int .i64 mb] 60))).row ⟨V0.heap.size, 0, none⟩ 1 1 [.int .i64 ma, .int .i64 mb] rfl rfl (news_at (heap_alloc_new V0 _)) (by intro u hu; simp at hu; rcases hu with rfl | rfl <;> rfl) (by unfold maxLen; omega) (by omega) (by have := HR0.out.below.size; simp; omega) ?_; intro u9 V3 r8 g8 _; obtain ⟨gg8, kk8, rfl⟩ := ownsRow_succ r8; have HR3 : Hid _ := (HR0.out.step ((Below.refl _ V0).alloc (Nat.le_refl _) (.cells #[.int .i64 ma, .int .i64 mb] 60))).app (p := ⟨ma, mb⟩) r8 g8; clear r8 g8)
                  go_roundw
                  case rel => have HMX : Mid ⟨pa, pb⟩ L (k + 1) true (M ++ [⟨ma, mb⟩]) := HP2.out (by simp); have e1 := (mid_det HMX).1; have e2 := (mid_det HMX).2; refine ⟨_, _, _, ⟨k + 1, ?_, ?_, ?_, ?_, some ⟨gg8, 0, none⟩, kk8, ?_⟩, rfl, rfl, rfl⟩; (go_num); (rw [← e1]); (omega); rotate_left; (rw [← e2]; simp); rw [← e2]; exact HR3
                  case measure => simp [intOf]; omega
              | false =>
                clear HP1
                go_wp2_with (at_builtin; refine wpList_append_own _ rfl _ _ 50 rfl W1.heap.size 60 i0 _ 2 16 Try.underlying50 HI.out.1 HI.out.2.1 HI.out.2.2.1 HI.out.2.2.2 rfl (by decide) _ _ _ rfl (HR0.out.step ((Below.refl _ V0).alloc (Nat.le_refl _) (.cells #[.int .i64 ma, .int .i64 mb] 60))).row ⟨V0.heap.size, 0, none⟩ 1 1 [.int .i64 ma, .int .i64 mb] rfl rfl (news_at (heap_alloc_new V0 _)) (by intro u hu; simp at hu; rcases hu with rfl | rfl <;> rfl) (by unfold maxLen; omega) (by omega) (by have := HR0.out.below.size; simp; omega) ?_; intro u9 V3 r8 g8 _; obtain ⟨gg8, kk8, rfl⟩ := ownsRow_succ r8; have HR3 : Hid _ := (HR0.out.step ((Below.refl _ V0).alloc (Nat.le_refl _) (.cells #[.int .i64 ma, .int .i64 mb] 60))).app (p := ⟨ma, mb⟩) r8 g8; clear r8 g8)
                go_roundw
                case rel => have HMX : Mid ⟨pa, pb⟩ L (k + 1) put (M ++ [⟨ma, mb⟩]) := HP2.out (by simp); have e1 := (mid_det HMX).1; have e2 := (mid_det HMX).2; refine ⟨_, _, _, ⟨k + 1, ?_, ?_, ?_, ?_, some ⟨gg8, 0, none⟩, kk8, ?_⟩, rfl, rfl, rfl⟩; (go_num); (rw [← e1]); (omega); rotate_left; (rw [← e2]; simp); rw [← e2]; exact HR3
                case measure => simp [intOf]; omega)
          · obtain rfl : k = L.length := by omega
            have hil : (ins ⟨pa, pb⟩ L).length ≤ room := by rw [ins_length]; omega
            have his := ins_sorted HS1.out.sorted HN.out
            cases put with
            | true =>
              have hMe : M = ins ⟨pa, pb⟩ L := by
                rcases HM.out with ⟨e, _⟩ | ⟨_, e, _⟩
                · cases e
                · rw [List.take_length] at e; exact e
              have f1 : wr.frozen? ⟨rp, 0, none⟩ = false := (HR.out.below.frozen hrl).trans f0
              have HFN : Hid _ := HR.out.ref HS1.out (Nat.le_trans hbase HB1.out.size) (by rw [hMe]; exact hil) (by rw [hMe]; exact his)
              have HME : Hid _ := hMe
              clear hMe HM
              go_wp2_with (fail)
              go_ret2
              obtain ⟨q1, q2, q3⟩ := HFN.out
              exact ⟨rfl, _, by rw [← HME.out]; exact q1, (Ch.of_below HB1.out _ _).trans q2, Or.inr (q3.imp id (fun ⟨g, a, b⟩ => ⟨g, a, Nat.le_trans HB1.out.size b⟩))⟩
            | false =>
              have hMe : M ++ [⟨pa, pb⟩] = ins ⟨pa, pb⟩ L := by
                rcases HM.out with ⟨_, e, hall⟩ | ⟨e, _⟩
                · rw [List.take_length] at e hall
                  have := ins_all (p := ⟨pa, pb⟩) (A := L) (B := []) hall
                  rw [List.append_nil] at this
                  rw [e, this]; rfl
                · cases e
              have HME : Hid _ := hMe
              clear hMe HM
              go_wp2_with (at_builtin; refine wpList_append_own _ rfl _ _ 50 rfl W1.heap.size 60 i0 _ 2 16 Try.underlying50 HI.out.1 HI.out.2.1 HI.out.2.2.1 HI.out.2.2.2 rfl (by decide) _ _ _ rfl (HR.out.step ((Below.refl _ wr).alloc (Nat.le_refl _) (.cells #[.int .i64 pa, .int .i64 pb] 60))).row ⟨wr.heap.size, 0, none⟩ 1 1 [.int .i64 pa, .int .i64 pb] rfl rfl (news_at (heap_alloc_new wr _)) (by intro u hu; simp at hu; rcases hu with rfl | rfl <;> rfl) (by unfold maxLen; omega) (by omega) (by have := HR.out.below.size; simp; omega) ?_; intro u9 V2 r8 g8 _; obtain ⟨gg8, kk8, rfl⟩ := ownsRow_succ r8; have HR2 : Hid _ := (HR.out.step ((Below.refl _ wr).alloc (Nat.le_refl _) (.cells #[.int .i64 pa, .int .i64 pb] 60))).app (p := ⟨pa, pb⟩) r8 g8; clear r8 g8; have e0 := (HR2.out.below.cell hrl).trans c0; have f1 := (HR2.out.below.frozen hrl).trans f0)
              go_ret2
              obtain ⟨q1, q2, q3⟩ := HR2.out.ref HS1.out (Nat.le_trans hbase HB1.out.size) (by rw [HME.out]; exact hil) (by rw [HME.out]; exact his)
              rw [HME.out] at q1
              exact ⟨rfl, _, q1, (Ch.of_below HB1.out _ _).trans q2, Or.inr (q3.imp id (fun ⟨g, a, b⟩ => ⟨g, a, Nat.le_trans HB1.out.size b⟩))⟩
      · have e1 : putL room L ⟨pa, pb⟩ = L := by unfold putL; rw [if_neg (fun h => hfull h.2.2)]
        have e2 : putE room L ⟨pa, pb⟩ = 40 := by unfold putE; rw [if_pos hab, if_neg hin, if_neg hfull]
        have e3 : putN room L ⟨pa, pb⟩ = false := by unfold putN; exact decide_eq_false (fun h => hfull h.2.2)
        rw [e1, e2, e3]
        clear e1 e2 e3 hin
        have hfi : (room : Int) ≤ (L.length : Int) := by omega
        go_enter Try.func23, Try.ntmps23
        go_wp2_with (fail)
        refine Calls.mono HH.out ?_
        clear HH
        rintro e W1 ⟨rfl, hb1⟩
        have hB1 : Below w.heap.size w W1 := hB0.trans (hb1.mono (by omega))
        have b0 : W1.cell? ⟨w.heap.size, 0, none⟩ = some (.int .i64 pa) := (hb1.cell (by simp)).trans (by simp [go_sem])
        have b1 : W1.cell? ⟨w.heap.size, 1, none⟩ = some (.int .i64 pb) := (hb1.cell (by simp)).trans (by simp [go_sem])
        have hbx : w.heap.size < W1.heap.size := Nat.lt_of_lt_of_le (Nat.lt_succ_self _) (by have := hb1.size; simpa using this)
        have hS1 := HS.out.below hB1
        have hrl := hS1.lt
        have hlen := hS1.len
        have hrm := hS1.rm
        obtain ⟨o, cap, hlv, hlc, hcm, hcell⟩ := (Lies.of_row hS1.own).form
        have c0 := hS1.c0
        have c1 := hS1.c1
        have f0 := hS1.f0 0
        rw [hlv] at c0
        have HC : Hid _ := hcell
        have HS1 : Hid _ := hS1
        have HB1 : Hid _ := hB1
        clear hS1 hcell hlv hb1 hB1 hB0
        go_wp2_with (fail)
        go_quiet (fail)
        go_wp2_with (fail)
        go_ret2
        have hB9 := HB1.out.trans (⟨rfl, rfl, rfl, Nat.le_refl _, fun _ _ => rfl⟩ : Below w.heap.size W1 (W1.drewN nq))
        exact ⟨rfl, v, HS.out.below hB9, Ch.of_below hB9 _ _, Or.inl rfl⟩
  · have e1 : putL room L ⟨pa, pb⟩ = L := by unfold putL; rw [if_neg (fun h => hab h.1)]
    have e2 : putE room L ⟨pa, pb⟩ = 1 := by unfold putE; rw [if_neg hab]
    have e3 : putN room L ⟨pa, pb⟩ = false := by unfold putN; exact decide_eq_false (fun h => hab h.1)
    rw [e1, e2, e3]
    have hab' : pb ≤ pa := by omega
    clear e1 e2 e3 HH
    go_enter Try.func23, Try.ntmps23
    go_wp2_with (fail)
    go_ret2
    exact ⟨rfl, v, HS.out.below hB0, Ch.of_below hB0 _ _, Or.inl rfl⟩
end Go.Proofs.Ytbbmjfaflcbimaa
