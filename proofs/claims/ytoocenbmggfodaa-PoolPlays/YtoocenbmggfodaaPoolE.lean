/- A new pool; how many things a pool has; the chapter's example. -/
import Derived.Test.YtoocenbmggfodaaPoolD
import Derived.Test.YtoocenbmggfodaaPoolC
import Derived.Laws.MakeOwn
import Derived.Laws.OwnMore
namespace Go.Proofs.Ytoocenbmggfodaa
open Go.RowKit Go.Shelf
set_option linter.unusedVariables false

theorem new_no (room : Int) (w : World) (h : room < 1 ∨ 1024 < room) :
    Calls Try.prog 5 #[.int .i64 room] w fun e w' => e = .returned (.tuple #[.pointer none, .int .i64 1]) ∧ w' = w := by
  rcases h with h | h
  · go_enter Try.func5, Try.ntmps5
    go_wp2
    go_ret2
    exact ⟨rfl, rfl⟩
  · have h' : ¬ room < 1 := by omega
    go_enter Try.func5, Try.ntmps5
    go_wp2
    go_ret2
    exact ⟨rfl, rfl⟩
theorem place_info : (Try.prog.info? 61).map (fun i => (i.zero, i.size, i.bytes)) = some (some (.agg #[.int .i64 0, .bool false, .int .i64 0]), 3, 24) := by kernel_rfl
theorem made_at (n j : Nat) (h : j < n * 3) : (madeCells (Value.agg #[.int .i64 0, .bool false, .int .i64 0]).cells (n * 3))[j]? = some (match j % 3 with | 0 => .int .i64 0 | 1 => .bool false | _ => .int .i64 0) := by
  have h3 : j % 3 = 0 ∨ j % 3 = 1 ∨ j % 3 = 2 := by omega
  have hc : (Value.agg #[.int .i64 0, .bool false, .int .i64 0]).cells = #[.int .i64 0, .bool false, .int .i64 0] := rfl
  rw [hc]
  rcases h3 with e | e | e <;> simp [madeCells, h, e]
theorem new_pool (room : Nat) (w : World) (h2 : room ≤ 1024) : IsPool ((w.alloc (.cells (madeCells (Value.agg #[.int .i64 0, .bool false, .int .i64 0]).cells (room * 3)) 61)).alloc (.cells #[.slice (some ⟨w.heap.size, 0, none⟩) room room] 53)) (w.heap.size + 1) w.heap.size (List.replicate room ⟨0, false, 0⟩) := by
  have cell : ∀ j, j < room * 3 → ((w.alloc (.cells (madeCells (Value.agg #[.int .i64 0, .bool false, .int .i64 0]).cells (room * 3)) 61)).alloc (.cells #[.slice (some ⟨w.heap.size, 0, none⟩) room room] 53)).cell? ⟨w.heap.size, j, none⟩ = some (match j % 3 with | 0 => .int .i64 0 | 1 => .bool false | _ => .int .i64 0) := fun j hj => by
    rw [World.cell?_alloc_past _ _ _ (by simp), World.cell?_alloc_at _ _ _ _ rfl]
    exact made_at room j hj
  have get : ∀ i, i < room → (List.replicate room (⟨0, false, 0⟩ : Pl))[i]?.getD default = ⟨0, false, 0⟩ := fun i hi => by simp [hi]
  refine ⟨?_, by omega, by simp; omega, by simpa using h2, ?_, ?_, ?_, ?_, ?_⟩
  · exact ⟨room, by simp, by omega, by simp [go_sem]⟩
  · intro i hi
    rw [List.length_replicate] at hi
    rw [get i hi, cell _ (by omega), show i * 3 % 3 = 0 by omega]; rfl
  · intro i hi
    rw [List.length_replicate] at hi
    rw [get i hi, cell _ (by omega), show (i * 3 + 1) % 3 = 1 by omega]; rfl
  · intro i hi
    rw [List.length_replicate] at hi
    rw [get i hi, cell _ (by omega), show (i * 3 + 2) % 3 = 2 by omega]; rfl
  · intro o _
    simp [go_sem]
  · intro i hi
    rw [List.length_replicate] at hi
    rw [get i hi]
    exact ⟨Int.le_refl _, by decide, fun _ => by decide⟩
set_option maxHeartbeats 1000000 in
theorem new_yes (room : Nat) (w : World) (h1 : 1 ≤ room) (h2 : room ≤ 1024) :
    Calls Try.prog 5 #[.int .i64 (room : Int)] w fun e W => ∃ pp pl, e = .returned (.tuple #[.pointer (some ⟨pp, 0, none⟩), .int .i64 0]) ∧ w.heap.size ≤ pl ∧ w.heap.size ≤ pp ∧ IsPool W pp pl (List.replicate room ⟨0, false, 0⟩) ∧ Below w.heap.size w W := by
  have h3 : ¬ (room : Int) < 1 := by omega
  have h4 : ¬ 1024 < (room : Int) := by omega
  have h5 : (room : Int) ≤ 1024 := by omega
  obtain ⟨i0, hi, hz, hs, hb⟩ := info_parts place_info
  have hmk := run_make (P := Try.prog) w 51 61 i0 _ Try.underlying51 hi hz .i64 .i64 room room (by omega) (Int.le_refl _) (by rw [hb]; omega) (by omega)
  rw [Int.toNat_natCast, hs] at hmk
  obtain ⟨C, hC⟩ : ∃ C, C = madeCells (Value.agg #[.int .i64 0, .bool false, .int .i64 0]).cells (room * 3) := ⟨_, rfl⟩
  rw [← hC] at hmk
  have HC : Hid _ := hC
  clear hC hi hz hs hb
  go_enter Try.func5, Try.ntmps5
  go_wp2
  go_ret2
  have hp := new_pool room w h2
  rw [← HC.out] at hp
  exact ⟨_, rfl, _, Nat.le_refl _, Nat.le_succ _, hp, ((Below.refl _ w).alloc (Nat.le_refl _) _).alloc (by simp) _⟩

/-- How many places have a thing. -/
def held (L : List Pl) : Nat := (lives L (ups L.length L.length)).length

attribute [local go_sem] Oper.semAt_some in
set_option maxRecDepth 100000 in
set_option maxHeartbeats 2000000 in
theorem len_any (pp pl : Nat) (L : List Pl) (w : World) (hp : IsPool w pp pl L) :
    Calls Try.prog 20 #[.pointer (some ⟨pp, 0, none⟩)] w fun e W => e = .returned (.int .i64 (held L)) ∧ Below w.heap.size w W := by
  refine (callsIn_wide (n := 9)).1 ?_
  have h1 : 1 ≤ 9 := by omega
  have hpp : pp < w.heap.size := hp.plt
  have hpl := hp.lt
  refine callsIn_of_wp_marks Try.func20 rfl trivial ?_ rfl
  simp only [Try.ntmps20, List.size_toArray, List.length_cons, List.length_nil, Nat.reduceAdd, Nat.reduceSub, Array.replicate_succ, Array.replicate_zero, List.push_toArray, List.append_toArray, List.nil_append, List.cons_append]
  gi_wp2_with (refine ⟨trivial, ?_⟩; gi_at_call 29; refine (callsIn_wide.2 (all_in _ _)).mono ?_; rintro e w' ⟨rfl, rfl⟩)
  obtain ⟨S0, hS0⟩ : ∃ n, n = w.heap.size := ⟨_, rfl⟩
  obtain ⟨W0, hW0⟩ : ∃ W0, W0 = (w.alloc (.cells #[.int .i64 0] 3)).alloc (.cells #[.pointer (some ⟨pp, 0, none⟩)] 24) := ⟨_, rfl⟩
  have hsz : W0.heap.size = S0 + 2 := by rw [hW0, hS0]; simp
  have hB0 : Below w.heap.size w W0 := by rw [hW0]; exact ((Below.refl _ w).alloc (Nat.le_refl _) _).alloc (by simp) _
  have bx0 : Boxed W0 S0 3 (.int .i64 0) := by rw [hW0, hS0]; exact (Boxed.new w 3 (.int .i64 0)).alloc _
  have hbs : W0.cell? ⟨S0 + 1, 0, none⟩ = some (.pointer (some ⟨pp, 0, none⟩)) := by rw [hW0, hS0]; simp [go_sem]
  rw [← hW0, ← hS0]
  have hSl : w.heap.size ≤ S0 := by omega
  have hSr : S0 ≤ w.heap.size := by omega
  clear hW0 hS0
  have hp0 := hp.below hB0
  refine range_by h1 (gf := 31) (lb := #[.pointer (some ⟨S0 + 1, 0, none⟩)]) rfl (enters_of Try.func31 (by kernel_rfl) rfl)
    (all_tells (9 - 1) (by omega) (S0 + 1) pp pl L W0 hp0 hbs) (fun h k => Keep.trans h k) (fun _ _ _ o' _ h hc => keep_b o' h hc) (fun _ => rfl)
    (fun pre V => Boxed V S0 3 (.int .i64 (pre.length : Int)) ∧ Below w.heap.size w V)
    (fun _ _ _ => False)
    (fun s A B row hs hg hr => ⟨box_own hs.1 hg hr, hs.2.grown hg hs.2.size (fun k e => by have := (hr k e).1; omega)⟩)
    (fun _ _ _ _ _ hs _ _ => hs)
    ⟨bx0, hB0⟩
    (fun x => { tmps := #[.pointer (some ⟨pp, 0, none⟩), undef, .int .i64 0, .pointer (some ⟨S0, 0, none⟩), .pointer (some ⟨pp, 0, none⟩), .func (.func 31) #[] #[.pointer (some ⟨S0 + 1, 0, none⟩)], .int .i64 (handleOf (at_ L x.1.val) x.1.val), .int .i64 (at_ L x.1.val).x, undef, undef, undef], defers := [] }) ?assign ?body ?done ?stop
  case assign =>
    intro l x W K hK
    unfold encA
    gi_wp2
    simpa using hK
  case body =>
    rintro l pre x V ⟨bx, hB⟩ hlen
    have hr := hp.room
    have c := bx.cell
    have f := bx.frozen
    have hl : pre.length < 1024 := by omega
    gi_wp2
    refine ⟨(KeepsOthers.setCell _ _ _).from _, keep_grown (row := some S0) ⟨rfl, rfl, rfl, by simp [World.setCell], fun k _ hk => Below.heap_setCell _ _ _ k (fun e => hk (by rw [e]))⟩ (fun r e => by cases e; omega), ?_, hB.setCell (p := ⟨S0, 0, none⟩) hSl _⟩
    rw [List.length_append]
    exact bx.set _
  case done =>
    rintro D ys V hD rfl ⟨bx, hB⟩ hK
    have c := bx.cell
    gi_wp2
    refine ⟨by simp, .inl ⟨_, _, rfl, run_takeDeferred hK, ?_⟩⟩
    exact ⟨_, results_tmp rfl _ _ _, rfl, hB.trans (belowK_b (w := w) (Nat.le_refl _) V D _ _ (by omega) hK rfl rfl)⟩
  case stop =>
    rintro D c pre V _ _ h _
    exact h.elim

theorem found_fill {L : List Pl} {k : Nat} {x : Int} (hk : k < L.length) (hr : L.length ≤ 1024) (h0 : 0 ≤ (at_ L k).age) : found (L.set k ⟨(at_ L k).age, true, x⟩) (handleOf (at_ L k) k) = some k := by
  unfold found handleOf
  have e1 : ((at_ L k).age * 65536 + (k : Int) + 1 - 1) % 65536 = k := by omega
  have e2 : ((at_ L k).age * 65536 + (k : Int) + 1 - 1) / 65536 = (at_ L k).age := by omega
  rw [e1, e2, Int.toNat_natCast]
  have e3 : at_ (L.set k ⟨(at_ L k).age, true, x⟩) k = ⟨(at_ L k).age, true, x⟩ := by unfold at_; rw [List.getElem?_set_self hk]; rfl
  rw [e3, if_pos ⟨by omega, by simpa using hk, rfl, rfl⟩]

theorem put_at (pp pl : Nat) (L : List Pl) (x : Int) (k : Nat) (w : World) (h : IsPool w pp pl L) (hk : k < L.length) (hf : (at_ L k).free = true) (hl : ∀ j, j < k → (at_ L j).free = false) :
    Calls Try.prog 17 #[.pointer (some ⟨pp, 0, none⟩), .int .i64 x] w fun e W => e = .returned (.tuple #[.int .i64 ((at_ L k).age * 65536 + (k : Int) + 1), .int .i64 0]) ∧ IsPool W pp pl (L.set k ⟨(at_ L k).age, true, x⟩) ∧ w.grownBy W (some pl) := by
  refine (put_any pp pl L x w h).mono ?_
  rintro e W (⟨k', a, b, c, d⟩ | ⟨a, _⟩)
  · have e1 : ¬ k' < k := fun hlt => by rw [hl k' hlt] at b; cases b
    have e2 : ¬ k < k' := fun hlt => by rw [c k hlt] at hf; cases hf
    obtain rfl : k' = k := by omega
    exact d
  · rw [a k hk] at hf; cases hf
theorem put_full (pp pl : Nat) (L : List Pl) (x : Int) (w : World) (h : IsPool w pp pl L) (hl : ∀ j, j < L.length → (at_ L j).free = false) :
    Calls Try.prog 17 #[.pointer (some ⟨pp, 0, none⟩), .int .i64 x] w fun e W => e = .returned (.tuple #[.int .i64 0, .int .i64 30]) ∧ IsPool W pp pl L ∧ w.grownBy W (some pl) := by
  refine (put_any pp pl L x w h).mono ?_
  rintro e W (⟨k', a, b, c, d⟩ | ⟨a, d⟩)
  · rw [hl k' a] at b; cases b
  · exact d

set_option maxRecDepth 100000 in
set_option maxHeartbeats 4000000 in
theorem awake_any (w : World) : Calls Try.prog 4 #[] w fun e w' => e = .returned (.bool true) ∧ Below w.heap.size w w' := by
  go_enter Try.func4, Try.ntmps4
  go_wp2_with (fail)
  refine (new_yes 2 w (by omega) (by omega)).mono ?_
  rintro e W0 ⟨pp, pl, rfl, hpl, hpp, hp, hB⟩
  have HB : Hid _ := hB
  clear hB
  go_wp2_with (fail)
  refine (new_no 0 W0 (by omega)).mono ?_
  rintro e W1 ⟨rfl, rfl⟩
  have P1 : Calls Try.prog 17 #[.pointer (some ⟨pp, 0, none⟩), .int .i64 5] W1 fun e W => e = .returned (.tuple #[.int .i64 1, .int .i64 0]) ∧ IsPool W pp pl [(⟨0, true, 5⟩ : Pl), (⟨0, false, 0⟩ : Pl)] ∧ W1.grownBy W (some pl) := put_at pp pl [(⟨0, false, 0⟩ : Pl), (⟨0, false, 0⟩ : Pl)] 5 0 W1 hp (by decide) rfl (by decide)
  have HP1 : Hid _ := P1
  clear P1
  go_wp2_with (fail)
  refine Calls.mono HP1.out ?_
  clear HP1
  rintro e W2 ⟨rfl, hp, hg⟩
  have HB : Hid _ := HB.out.grown hg HB.out.size (fun k e => by cases e; exact hpl)
  clear hg
  have P2 : Calls Try.prog 17 #[.pointer (some ⟨pp, 0, none⟩), .int .i64 6] W2 fun e W => e = .returned (.tuple #[.int .i64 2, .int .i64 0]) ∧ IsPool W pp pl [(⟨0, true, 5⟩ : Pl), (⟨0, true, 6⟩ : Pl)] ∧ W2.grownBy W (some pl) := put_at pp pl [(⟨0, true, 5⟩ : Pl), (⟨0, false, 0⟩ : Pl)] 6 1 W2 hp (by decide) rfl (by decide)
  have HP2 : Hid _ := P2
  clear P2
  go_wp2_with (fail)
  refine Calls.mono HP2.out ?_
  clear HP2
  rintro e W3 ⟨rfl, hp, hg⟩
  have HB : Hid _ := HB.out.grown hg HB.out.size (fun k e => by cases e; exact hpl)
  clear hg
  have P3 := put_full pp pl [(⟨0, true, 5⟩ : Pl), (⟨0, true, 6⟩ : Pl)] 7 W3 hp (by decide)
  have HP3 : Hid _ := P3
  clear P3
  go_wp2_with (fail)
  refine Calls.mono HP3.out ?_
  clear HP3
  rintro e W4 ⟨rfl, hp, hg⟩
  have HB : Hid _ := HB.out.grown hg HB.out.size (fun k e => by cases e; exact hpl)
  clear hg
  have P4 : Calls Try.prog 14 #[.pointer (some ⟨pp, 0, none⟩), .int .i64 1] W4 fun e W => e = .returned (.bool true) ∧ IsPool W pp pl [(⟨1, false, 0⟩ : Pl), (⟨0, true, 6⟩ : Pl)] ∧ W4.grownBy W (some pl) := drop_yes pp pl [(⟨0, true, 5⟩ : Pl), (⟨0, true, 6⟩ : Pl)] 1 0 W4 hp (by decide) (by decide)
  have HP4 : Hid _ := P4
  clear P4
  go_wp2_with (fail)
  refine Calls.mono HP4.out ?_
  clear HP4
  rintro e W5 ⟨rfl, hp, hg⟩
  have HB : Hid _ := HB.out.grown hg HB.out.size (fun k e => by cases e; exact hpl)
  clear hg
  have P5 : Calls Try.prog 17 #[.pointer (some ⟨pp, 0, none⟩), .int .i64 8] W5 fun e W => e = .returned (.tuple #[.int .i64 65537, .int .i64 0]) ∧ IsPool W pp pl [(⟨1, true, 8⟩ : Pl), (⟨0, true, 6⟩ : Pl)] ∧ W5.grownBy W (some pl) := put_at pp pl [(⟨1, false, 0⟩ : Pl), (⟨0, true, 6⟩ : Pl)] 8 0 W5 hp (by decide) rfl (by decide)
  have HP5 : Hid _ := P5
  clear P5
  go_wp2_with (fail)
  refine Calls.mono HP5.out ?_
  clear HP5
  rintro e W6 ⟨rfl, hp, hg⟩
  have HB : Hid _ := HB.out.grown hg HB.out.size (fun k e => by cases e; exact hpl)
  clear hg
  have P6 : Calls Try.prog 10 #[.pointer (some ⟨pp, 0, none⟩), .int .i64 65537] W6 fun e W => e = .returned (.tuple #[.int .i64 8, .bool true]) ∧ W = W6 := get_yes pp pl [(⟨1, true, 8⟩ : Pl), (⟨0, true, 6⟩ : Pl)] 65537 0 W6 hp (by decide) (by decide)
  have HP6 : Hid _ := P6
  clear P6
  go_wp2_with (fail)
  refine Calls.mono HP6.out ?_
  clear HP6
  rintro e W7 ⟨rfl, rfl⟩
  have P7 : Calls Try.prog 20 #[.pointer (some ⟨pp, 0, none⟩)] W7 fun e W => e = .returned (.int .i64 2) ∧ Below W7.heap.size W7 W := len_any pp pl [(⟨1, true, 8⟩ : Pl), (⟨0, true, 6⟩ : Pl)] W7 hp
  have HP7 : Hid _ := P7
  clear P7
  go_wp2_with (fail)
  refine Calls.mono HP7.out ?_
  clear HP7
  rintro e W8 ⟨rfl, hb⟩
  have HB : Hid _ := HB.out.trans (hb.mono HB.out.size)
  clear hb
  go_wp2_with (fail)
  go_ret
  exact ⟨rfl, HB.out⟩
end Go.Proofs.Ytoocenbmggfodaa
