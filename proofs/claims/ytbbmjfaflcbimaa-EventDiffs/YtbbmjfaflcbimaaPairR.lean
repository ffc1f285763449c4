/- The reference's set of pairs: Has, Drop, Without, Beyond, Put. -/
import Derived.Test.YtbbmjfaflcbimaaPairJ
import Derived.Deep.Onto
namespace Go.Proofs.Ytbbmjfaflcbimaa
open Go.RowKit Go.Shelf
set_option linter.unusedVariables false

structure IsRef (W : World) (rp base : Nat) (v : Value) (room : Nat) (L : List Pr) : Prop where
  obj : W.heap[rp]? = some (.cells #[v, .int .i64 (room : Int)] 75 (0, 0))
  own : W.ownsRow base 60 2 v L.length (flat L)
  len : L.length ≤ room
  rm : room ≤ 4096
  sorted : L.Pairwise Pr.Lt
theorem IsRef.c0 {W : World} {rp base : Nat} {v : Value} {room : Nat} {L : List Pr} (h : IsRef W rp base v room L) : W.cell? ⟨rp, 0, none⟩ = some v := by simp [World.cell?, h.obj]
theorem IsRef.c1 {W : World} {rp base : Nat} {v : Value} {room : Nat} {L : List Pr} (h : IsRef W rp base v room L) : W.cell? ⟨rp, 1, none⟩ = some (.int .i64 (room : Int)) := by simp [World.cell?, h.obj]
theorem IsRef.f0 {W : World} {rp base : Nat} {v : Value} {room : Nat} {L : List Pr} (h : IsRef W rp base v room L) (o : Nat) : W.frozen? ⟨rp, o, none⟩ = false := by simp [World.frozen?, h.obj]
theorem IsRef.lt {W : World} {rp base : Nat} {v : Value} {room : Nat} {L : List Pr} (h : IsRef W rp base v room L) : rp < W.heap.size := (Array.getElem?_eq_some_iff.1 h.obj).1
theorem IsRef.below {w W : World} {rp base : Nat} {v : Value} {room : Nat} {L : List Pr} (h : IsRef w rp base v room L) (hb : Below w.heap.size w W) : IsRef W rp base v room L := by
  refine ⟨(hb.block rp h.lt).trans h.obj, ?_, h.len, h.rm, h.sorted⟩
  cases e : v.ownBlock with
  | none => exact h.own.kept (below_grown hb none) (Or.inl e)
  | some k => exact h.own.kept (below_grown hb none) (Or.inr (by rw [e]; simp))

theorem ref_store {W : World} {rp base : Nat} {room : Nat} {L : List Pr} {x : Value} (ho : W.heap[rp]? = some (.cells #[x, .int .i64 (room : Int)] 75 (0, 0))) (v : Value) (hv : W.ownsRow base 60 2 v L.length (flat L)) (h1 : L.length ≤ room) (h2 : room ≤ 4096) (h3 : L.Pairwise Pr.Lt) :
    IsRef (W.setCell ⟨rp, 0, none⟩ v) rp base v room L := by
  have hne : v.ownBlock ≠ some rp := fun e => by
    rcases hv.2 with ⟨rfl, _⟩ | ⟨g, cap, cur, rfl, _, hg, _⟩
    · cases e
    · have : g = rp := by simpa [Value.ownBlock] using e
      subst this
      rw [ho] at hg
      simp at hg
  refine ⟨?_, ?_, h1, h2, h3⟩
  · have := heap_setCell_same W rp 0 _ _ v ho
    simpa using this
  · refine hv.kept (row := some rp) ⟨rfl, rfl, rfl, by simp [World.setCell], fun k _ hk => Below.heap_setCell _ _ _ k (fun e => hk (by rw [e]))⟩ (Or.inr hne)

/-- A list that a call writes, in a row of its own. -/
structure Row (w V : World) (u : Value) (M : List Pr) : Prop where
  row : V.ownsRow w.heap.size 60 2 u M.length (flat M)
  below : Below w.heap.size w V
theorem Row.step {w A B : World} {u : Value} {M : List Pr} (h : Row w A u M) (hb : Below A.heap.size A B) : Row w B u M := by
  refine ⟨?_, h.below.trans (hb.mono h.below.size)⟩
  cases e : u.ownBlock with
  | none => exact h.row.kept (below_grown hb none) (Or.inl e)
  | some k => exact h.row.kept (below_grown hb none) (Or.inr (by rw [e]; simp))
theorem Row.app {w A B : World} {u u' : Value} {M : List Pr} {p : Pr} (h : Row w A u M) (hr : B.ownsRow w.heap.size 60 2 u' (M.length + 1) (flat M ++ [.int .i64 p.a, .int .i64 p.b])) (hg : A.grownBy B u.ownBlock) : Row w B u' (M ++ [p]) := by
  refine ⟨?_, h.below.grown hg h.below.size (fun k e => (h.row.lt k e).1)⟩
  have : flat (M ++ [p]) = flat M ++ [.int .i64 p.a, .int .i64 p.b] := by rw [flat_append]; rfl
  rw [this, List.length_append]
  exact hr
/-- What is stored at the end. -/
theorem Row.ref {w V : World} {rp base : Nat} {v u : Value} {room : Nat} {L M : List Pr} (h : Row w V u M) (hr : IsRef w rp base v room L) (hb : base ≤ w.heap.size) (h1 : M.length ≤ room) (h3 : M.Pairwise Pr.Lt) :
    IsRef (V.setCell ⟨rp, 0, none⟩ u) rp base u room M ∧ Ch w (V.setCell ⟨rp, 0, none⟩ u) rp none ∧ (u.ownBlock = none ∨ ∃ g, u.ownBlock = some g ∧ w.heap.size ≤ g) := by
  refine ⟨ref_store ((hr.below h.below).obj) u (h.row.mono hb) h1 hr.rm h3, (Ch.of_below h.below rp none).store _ _, ?_⟩
  cases e : u.ownBlock with
  | none => exact Or.inl rfl
  | some k => exact Or.inr ⟨k, rfl, (h.row.lt k e).1⟩

theorem rnew_no (room : Int) (w : World) (h : room < 1 ∨ 4096 < room) :
    Calls Try.prog 21 #[.int .i64 room] w fun e w' => e = .returned (.tuple #[.pointer none, .int .i64 1]) ∧ w' = w := by
  rcases h with h | h
  · go_enter Try.func21, Try.ntmps21
    go_wp2
    go_ret2
    exact ⟨rfl, rfl⟩
  · have h' : ¬ room < 1 := by omega
    go_enter Try.func21, Try.ntmps21
    go_wp2
    go_ret2
    exact ⟨rfl, rfl⟩
theorem rnew_yes (room base : Nat) (w : World) (h1 : 1 ≤ room) (h2 : room ≤ 4096) :
    Calls Try.prog 21 #[.int .i64 (room : Int)] w fun e W => ∃ rp, e = .returned (.tuple #[.pointer (some ⟨rp, 0, none⟩), .int .i64 0]) ∧ w.heap.size ≤ rp ∧ IsRef W rp base (.slice none 0 0) room [] ∧ Below w.heap.size w W := by
  have h3 : ¬ (room : Int) < 1 := by omega
  have h4 : ¬ 4096 < (room : Int) := by omega
  go_enter Try.func21, Try.ntmps21
  go_wp2
  go_ret2
  exact ⟨_, rfl, Nat.le_refl _, ⟨heap_alloc_new w _, World.ownsRow_nil _ _ _ _, by simp, h2, List.Pairwise.nil⟩, (Below.refl _ w).alloc (Nat.le_refl _) _⟩

theorem pt_eq_iff (x : Pr) (a b : Int) : x = ⟨a, b⟩ ↔ x.a = a ∧ x.b = b := by cases x; simp

set_option maxHeartbeats 4000000 in
set_option maxRecDepth 100000 in
theorem rhas_any (rp base : Nat) (v : Value) (room : Nat) (L : List Pr) (p : Pr) (w : World) (hs : IsRef w rp base v room L) :
    Calls Try.prog 33 #[.pointer (some ⟨rp, 0, none⟩), p.v] w fun e W => e = .returned (.bool (decide (p ∈ L))) ∧ Below w.heap.size w W := by
  obtain ⟨pa, pb⟩ := p
  have hlen := hs.len
  have hrm := hs.rm
  have hrl := hs.lt
  obtain ⟨o, cap, hlv, hlc, hcm, hcell⟩ := (Lies.of_row hs.own).form
  have c0 := hs.c0
  rw [hlv] at c0
  have HC : Hid _ := hcell
  clear hs hcell hlv
  unfold Pr.v
  go_enter Try.func33, Try.ntmps33
  go_wp2
  go_loopw [5] (fun i wr => ∃ k : Nat, i = .int .i64 (k : Int) ∧ k ≤ L.length ∧ Hid (∀ j, j < k → pt L j ≠ ⟨pa, pb⟩) ∧ Hid (Below w.heap.size w wr) ∧ w.heap.size < wr.heap.size ∧ wr.cell? ⟨w.heap.size, 0, none⟩ = some (.int .i64 pa) ∧ wr.cell? ⟨w.heap.size, 1, none⟩ = some (.int .i64 pb)) (fun i _ => L.length - (intOf i).toNat)
  case atStart => exact ⟨0, rfl, Nat.zero_le _, fun j hj => absurd hj (by omega), (Below.refl _ w).alloc (Nat.le_refl _) _, by simp, by simp [go_sem], by simp [go_sem]⟩
  case round =>
    obtain ⟨k, rfl, hk, HN, HB, hsz, b0, b1⟩ := hrel
    have d0 : wr.cell? ⟨rp, 0, none⟩ = some (.slice o L.length cap) := (HB.out.cell hrl).trans c0
    by_cases hlt : k < L.length
    · obtain ⟨g, off, rfl, x0, x1⟩ := HC.out k hlt
      have x0 := (HB.out.cell (World.block_lt_of_cell? _ _ x0)).trans x0
      have x1 := (HB.out.cell (World.block_lt_of_cell? _ _ x1)).trans x1
      have HE : Hid (pt L k = ⟨pa, pb⟩ → decide ((⟨pa, pb⟩ : Pr) ∈ L) = true) := fun e => decide_eq_true (e ▸ pt_mem hlt)
      have HX : Hid (pt L k ≠ ⟨pa, pb⟩ → ∀ j, j < k + 1 → pt L j ≠ ⟨pa, pb⟩) := fun e j hj => by
        by_cases ej : j = k
        · subst ej; exact e
        · exact HN.out j (by omega)
      rw [pt_eq_iff] at HE
      rw [Ne, pt_eq_iff] at HX
      generalize (pt L k).a = ma at *
      generalize (pt L k).b = mb at *
      by_cases ea : ma = pa
      · subst ea
        by_cases eb : mb = pb
        · subst eb
          have HE' : Hid (decide ((⟨ma, mb⟩ : Pr) ∈ L) = true) := HE.out ⟨rfl, rfl⟩
          clear HE HX
          go_wp2_with (fail)
          go_quiet (fail)
          go_wp2_with (fail)
          go_ret
          exact ⟨by rw [HE'.out]; rfl, HB.out.trans ⟨rfl, rfl, rfl, Nat.le_refl _, fun _ _ => rfl⟩⟩
        · have eb' : (mb == pb) = false := beq_eq_false_iff_ne.2 eb
          go_wp2_with (fail)
          go_quiet (fail)
          go_wp2_with (fail)
          go_roundw
          case rel => exact ⟨k + 1, by go_num, by omega, HX.out (fun h => eb h.2), HB.out.trans ⟨rfl, rfl, rfl, Nat.le_refl _, fun _ _ => rfl⟩, hsz, b0, b1⟩
          case measure => simp [intOf]; omega
      · have ea' : (ma == pa) = false := beq_eq_false_iff_ne.2 ea
        go_wp2_with (fail)
        go_quiet (fail)
        go_wp2_with (fail)
        go_roundw
        case rel => exact ⟨k + 1, by go_num, by omega, HX.out (fun h => ea h.1), HB.out.trans ⟨rfl, rfl, rfl, Nat.le_refl _, fun _ _ => rfl⟩, hsz, b0, b1⟩
        case measure => simp [intOf]; omega
    · obtain rfl : k = L.length := by omega
      have HNO : Hid (decide ((⟨pa, pb⟩ : Pr) ∈ L) = false) := decide_eq_false (fun hm => by
        obtain ⟨i, hi, e⟩ := List.mem_iff_getElem.1 hm
        exact HN.out i hi (by unfold pt; rw [List.getElem?_eq_getElem hi]; exact e))
      go_wp2_with (fail)
      go_ret
      exact ⟨by rw [HNO.out]; rfl, HB.out⟩

theorem take_filter {L : List Pr} {f : Pr → Bool} {k : Nat} (hk : k < L.length) (a b : Int) (hp : pt L k = ⟨a, b⟩) : (L.take (k + 1)).filter f = if f ⟨a, b⟩ then (L.take k).filter f ++ [⟨a, b⟩] else (L.take k).filter f := by
  rw [filter_pt hk, hp]
  split <;> simp

end Go.Proofs.Ytbbmjfaflcbimaa
