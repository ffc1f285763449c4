/- The reference's New and All. -/
import Derived.Test.YtoocenbmggfodaaPoolK
import Derived.Maps.AppendAt
namespace Go.Proofs.Ytoocenbmggfodaa
open Go.RowKit Go.Shelf
set_option linter.unusedVariables false

theorem rnew_no (room : Int) (w : World) (h : room < 1 ∨ 1024 < room) :
    Calls Try.prog 6 #[.int .i64 room] w fun e w' => e = .returned (.tuple #[.pointer none, .int .i64 1]) ∧ w' = w := by
  rcases h with h | h
  · go_enter Try.func6, Try.ntmps6
    go_wp2
    go_ret2
    exact ⟨rfl, rfl⟩
  · have h' : ¬ room < 1 := by omega
    go_enter Try.func6, Try.ntmps6
    go_wp2
    go_ret2
    exact ⟨rfl, rfl⟩
theorem rplace_info : (Try.prog.info? 64).map (fun i => (i.zero, i.size, i.bytes)) = some (some (.agg #[.int .i64 0, .bool false, .int .i64 0]), 3, 24) := by kernel_rfl
theorem rnew_pool (room : Nat) (w : World) (h2 : room ≤ 1024) : IsPool ((w.alloc (.cells (madeCells (Value.agg #[.int .i64 0, .bool false, .int .i64 0]).cells (room * 3)) 64)).alloc (.cells #[.slice (some ⟨w.heap.size, 0, none⟩) room room] 56)) (w.heap.size + 1) w.heap.size (List.replicate room ⟨0, false, 0⟩) := by
  have cell : ∀ j, j < room * 3 → ((w.alloc (.cells (madeCells (Value.agg #[.int .i64 0, .bool false, .int .i64 0]).cells (room * 3)) 64)).alloc (.cells #[.slice (some ⟨w.heap.size, 0, none⟩) room room] 56)).cell? ⟨w.heap.size, j, none⟩ = some (match j % 3 with | 0 => .int .i64 0 | 1 => .bool false | _ => .int .i64 0) := fun j hj => by
    rw [World.cell?_alloc_past _ _ _ (by simp), World.cell?_alloc_at _ _ _ _ rfl]
    exact made_at room j hj
  have get : ∀ i, i < room → (List.replicate room (⟨0, false, 0⟩ : Pl))[i]?.getD default = ⟨0, false, 0⟩ := fun i hi => by simp [hi]
  refine ⟨?_, by omega, by simp; omega, by simpa using h2, ?_, ?_, ?_, ?_, ?_⟩
  · exact ⟨room, by simp, by omega, by simp [go_sem]⟩
  · intro i hi
    rw [List.length_replicate] at hi
    rw [get i hi, cell _ (by omega), show i * 3 % 3 = 0 by omega]; rfl
  · intro i hi
    rw [List.length_replicate] at hi
    rw [get i hi, cell _ (by omega), show (i * 3 + 1) % 3 = 1 by omega]; rfl
  · intro i hi
    rw [List.length_replicate] at hi
    rw [get i hi, cell _ (by omega), show (i * 3 + 2) % 3 = 2 by omega]; rfl
  · intro o _
    simp [go_sem]
  · intro i hi
    rw [List.length_replicate] at hi
    rw [get i hi]
    exact ⟨Int.le_refl _, by decide, fun _ => by decide⟩
set_option maxHeartbeats 1000000 in
theorem rnew_yes (room : Nat) (w : World) (h1 : 1 ≤ room) (h2 : room ≤ 1024) :
    Calls Try.prog 6 #[.int .i64 (room : Int)] w fun e W => ∃ pp pl, e = .returned (.tuple #[.pointer (some ⟨pp, 0, none⟩), .int .i64 0]) ∧ w.heap.size ≤ pl ∧ w.heap.size ≤ pp ∧ IsPool W pp pl (List.replicate room ⟨0, false, 0⟩) ∧ Below w.heap.size w W := by
  have h3 : ¬ (room : Int) < 1 := by omega
  have h4 : ¬ 1024 < (room : Int) := by omega
  have h5 : (room : Int) ≤ 1024 := by omega
  obtain ⟨i0, hi, hz, hs, hb⟩ := info_parts rplace_info
  have hmk := run_make (P := Try.prog) w 54 64 i0 _ Try.underlying54 hi hz .i64 .i64 room room (by omega) (Int.le_refl _) (by rw [hb]; omega) (by omega)
  rw [Int.toNat_natCast, hs] at hmk
  obtain ⟨C, hC⟩ : ∃ C, C = madeCells (Value.agg #[.int .i64 0, .bool false, .int .i64 0]).cells (room * 3) := ⟨_, rfl⟩
  rw [← hC] at hmk
  have HC : Hid _ := hC
  clear hC hi hz hs hb
  go_enter Try.func6, Try.ntmps6
  go_wp2
  go_ret2
  have hp := rnew_pool room w h2
  rw [← HC.out] at hp
  exact ⟨_, rfl, _, Nat.le_refl _, Nat.le_succ _, hp, ((Below.refl _ w).alloc (Nat.le_refl _) _).alloc (by simp) _⟩

/-- Numbers as cells. -/
def nums (l : List Int) : List Value := l.map (fun x => .int .i64 x)
theorem nums_length (l : List Int) : (nums l).length = l.length := by simp [nums]
theorem nums_append (l m : List Int) : nums (l ++ m) = nums l ++ nums m := by simp [nums]
/-- The handles, and the things, of places that have one. -/
def Hs {L : List Pl} (l : List (Live L)) : List Int := l.map (fun x => handleOf (at_ L x.1.val) x.1.val)
def Xs {L : List Pl} (l : List (Live L)) : List Int := l.map (fun x => (at_ L x.1.val).x)
theorem Hs_length {L : List Pl} (l : List (Live L)) : (Hs l).length = l.length := by simp [Hs]
theorem Xs_length {L : List Pl} (l : List (Live L)) : (Xs l).length = l.length := by simp [Xs]
theorem int_info : (Try.prog.info? 3).map (fun i => (i.zero, i.size, i.bytes)) = some (some (.int .i64 0), 1, 8) := by kernel_rfl

/-- Two lists of numbers that a call writes. -/
structure Two (w V : World) (u m : Value) (H X : List Int) : Prop where
  o1 : V.ownsRow w.heap.size 3 1 u H.length (nums H)
  o2 : V.ownsRow w.heap.size 3 1 m X.length (nums X)
  ap : u.ownBlock = none ∨ u.ownBlock ≠ m.ownBlock
  below : Below w.heap.size w V
theorem Two.ap' {w V : World} {u m : Value} {H X : List Int} (h : Two w V u m H X) : m.ownBlock = none ∨ m.ownBlock ≠ u.ownBlock := by
  rcases h.ap with e | e
  · cases hm : m.ownBlock with
    | none => exact Or.inl rfl
    | some k => right; rw [e]; simp
  · exact Or.inr (fun e' => e e'.symm)
theorem Two.lay {w V : World} {u m : Value} {H X : List Int} (h : Two w V u m H X) (o : Obj) : Two w (V.alloc o) u m H X :=
  ⟨World.ownsRow.alloc h.o1 o, World.ownsRow.alloc h.o2 o, h.ap, h.below.alloc h.below.size o⟩
theorem Two.app1 {w V V2 : World} {u m u' : Value} {H X : List Int} {x : Int} (h : Two w V u m H X) {o : Obj} (hr : V2.ownsRow w.heap.size 3 1 u' (H.length + 1) (nums H ++ [.int .i64 x])) (hg : (V.alloc o).grownBy V2 u.ownBlock) (hb : u'.ownBlock = u.ownBlock ∨ u'.ownBlock = some (V.alloc o).heap.size) : Two w V2 u' m (H ++ [x]) X := by
  have k := h.lay o
  refine ⟨by rw [nums_append, List.length_append]; exact hr, k.o2.kept hg h.ap', ?_, k.below.grown hg k.below.size (fun j e => (k.o1.lt j e).1)⟩
  rcases hb with e | e
  · rw [e]; exact h.ap
  · right
    rw [e]
    intro e2
    have := (k.o2.lt _ e2.symm).2
    omega
theorem Two.app2 {w V V2 : World} {u m m' : Value} {H X : List Int} {x : Int} (h : Two w V u m H X) {o : Obj} (hr : V2.ownsRow w.heap.size 3 1 m' (X.length + 1) (nums X ++ [.int .i64 x])) (hg : (V.alloc o).grownBy V2 m.ownBlock) (hb : m'.ownBlock = m.ownBlock ∨ m'.ownBlock = some (V.alloc o).heap.size) : Two w V2 u m' H (X ++ [x]) := by
  have k := h.lay o
  refine ⟨k.o1.kept hg h.ap, by rw [nums_append, List.length_append]; exact hr, ?_, k.below.grown hg k.below.size (fun j e => (k.o2.lt j e).1)⟩
  rcases hb with e | e
  · rw [e]; exact h.ap
  · cases hu : u.ownBlock with
    | none => exact Or.inl rfl
    | some j =>
      right
      rw [e]
      intro e2
      simp only [Option.some.injEq] at e2
      have := (k.o1.lt _ hu).2
      omega
theorem num_row {w : World} {base n : Nat} {v : Value} {xs : List Value} (h : w.ownsRow base 3 1 v n xs) : ∃ o c, v = .slice o n c := by
  rcases h.2 with ⟨e, h0⟩ | ⟨g, cap, cur, e, _⟩
  · exact ⟨none, 0, by rw [e, h0]⟩
  · exact ⟨_, cap, e⟩
theorem lives_step {L : List Pl} {k : Nat} (hk : k < L.length) : lives L (ups L.length (k + 1)) = lives L (ups L.length k) ++ (if h : (at_ L k).has = true then [⟨⟨k, hk⟩, h⟩] else []) := by
  rw [ups_succ hk, lives_append]
  congr 1

set_option maxRecDepth 100000 in
set_option maxHeartbeats 4000000 in
theorem rall_any (pp pl : Nat) (L : List Pl) (w : World) (hp : IsPool w pp pl L) :
    Calls Try.prog 28 #[.pointer (some ⟨pp, 0, none⟩)] w fun e W => ∃ u m, e = .returned (.tuple #[u, m]) ∧ Two w W u m (Hs (lives L (ups L.length L.length))) (Xs (lives L (ups L.length L.length))) := by
  obtain ⟨i0, hii, hiz, hisz, hib⟩ := info_parts int_info
  have HI : Hid _ := And.intro hii (And.intro hiz (And.intro hisz hib))
  clear hii hiz hisz hib
  have hr := hp.room
  obtain ⟨cp, hcp1, hcp2, cs⟩ := hp.slice
  have hpp := hp.plt
  have hpl := hp.lt
  have HP : Hid _ := hp
  clear hp
  go_enter Try.func28, Try.ntmps28
  go_wp2
  go_loopw [4, 5, 6] (fun u m i wr => ∃ k : Nat, i = .int .i64 (k : Int) ∧ k ≤ L.length ∧ Hid (Two w wr u m (Hs (lives L (ups L.length k))) (Xs (lives L (ups L.length k)))) ∧ (∃ o c, u = .slice o (Hs (lives L (ups L.length k))).length c) ∧ ∃ o c, m = .slice o (Xs (lives L (ups L.length k))).length c) (fun _ _ i _ => L.length - (intOf i).toNat)
  case atStart => exact ⟨0, rfl, Nat.zero_le _, ⟨World.ownsRow_nil _ _ _ _, World.ownsRow_nil _ _ _ _, Or.inl rfl, Below.refl _ _⟩, ⟨none, 0, rfl⟩, none, 0, rfl⟩
  case round =>
    obtain ⟨k, rfl, hk, HT, ⟨o1, c1, rfl⟩, o2, c2, rfl⟩ := hrel
    have HCS : Hid _ := cs
    have cs := (HT.out.below.cell (p := ⟨pp, 0, none⟩) hpp).trans cs
    by_cases hlt : k < L.length
    · have k0 := (HT.out.below.cell (p := ⟨pl, k * 3, none⟩) hpl).trans (HP.out.age k hlt)
      have k1 := (HT.out.below.cell (p := ⟨pl, k * 3 + 1, none⟩) hpl).trans (HP.out.has k hlt)
      have k2 := (HT.out.below.cell (p := ⟨pl, k * 3 + 2, none⟩) hpl).trans (HP.out.x k hlt)
      rw [show L[k]?.getD default = at_ L k from rfl] at k0 k1 k2
      have HK2 : Hid (w.cell? ⟨pl, k * 3 + 2, none⟩ = some (.int .i64 (at_ L k).x)) := HP.out.x k hlt
      have a0 : 0 ≤ (at_ L k).age := (HP.out.okAt k).1
      have a1 : (at_ L k).age ≤ 1073741825 := (HP.out.okAt k).2.1
      have HST : Hid _ := lives_step hlt
      have hll : (lives L (ups L.length k)).length ≤ 1024 := Nat.le_trans (lives_length L _) (by rw [ups_length (by omega)]; omega)
      have HHL : Hid _ := Hs_length (lives L (ups L.length k))
      have HXL : Hid _ := Xs_length (lives L (ups L.length k))
      have HHS : Hid ((at_ L k).has = true → Hs (lives L (ups L.length (k + 1))) = Hs (lives L (ups L.length k)) ++ [(at_ L k).age * 65536 + (k : Int) + 1] ∧ Xs (lives L (ups L.length (k + 1))) = Xs (lives L (ups L.length k)) ++ [(at_ L k).x]) := fun h => by
        rw [HST.out, dif_pos h]
        exact ⟨by unfold Hs; rw [List.map_append]; rfl, by unfold Xs; rw [List.map_append]; rfl⟩
      have HNO : Hid ((at_ L k).has = false → lives L (ups L.length (k + 1)) = lives L (ups L.length k)) := fun h => by
        rw [HST.out, dif_neg (by rw [h]; simp), List.append_nil]
      clear HST
      generalize (at_ L k).age = ag at *
      generalize (at_ L k).x = px at *
      generalize hhs : (at_ L k).has = hs at *
      clear hhs
      cases hs with
      | true =>
        obtain ⟨e1, e2⟩ := HHS.out rfl
        have HE1 : Hid _ := e1
        have HE2 : Hid _ := e2
        have hl1 : (Hs (lives L (ups L.length k))).length ≤ 1024 := by rw [HHL.out]; exact hll
        have hl2 : (Xs (lives L (ups L.length k))).length ≤ 1024 := by rw [HXL.out]; exact hll
        clear HHS HNO e1 e2 HHL HXL hll
        generalize Hs (lives L (ups L.length k)) = H at *
        generalize Xs (lives L (ups L.length k)) = X at *
        have hwr := HT.out.below.size
        go_wp2_with (first
          | (at_builtin; refine wpList_append_own_at _ rfl _ _ 31 rfl w.heap.size 3 i0 _ 1 8 Try.underlying31 HI.out.1 HI.out.2.1 HI.out.2.2.1 HI.out.2.2.2 rfl (by decide) _ _ _ rfl (HT.out.lay (.cells #[.int .i64 (ag * 65536 + (k : Int) + 1)] 3)).o1 ⟨wr.heap.size, 0, none⟩ 1 1 [.int .i64 (ag * 65536 + (k : Int) + 1)] rfl rfl (cell_one_new wr _ _) (by intro u hu; simp at hu; rw [hu]; rfl) (by unfold maxLen; omega) (by omega) (by simp; omega) ?_; intro u1 V1 r1 g1 _ b1; have HT1 : Hid _ := HT.out.app1 r1 g1 b1; obtain ⟨oo1, cc1, rfl⟩ := num_row r1; clear r1 g1 b1; have cs := (HT1.out.below.cell (p := ⟨pp, 0, none⟩) hpp).trans HCS.out; have k2 := (HT1.out.below.cell (p := ⟨pl, k * 3 + 2, none⟩) hpl).trans HK2.out; have hwr := HT1.out.below.size)
          | (at_builtin; refine wpList_append_own_at _ rfl _ _ 31 rfl w.heap.size 3 i0 _ 1 8 Try.underlying31 HI.out.1 HI.out.2.1 HI.out.2.2.1 HI.out.2.2.2 rfl (by decide) _ _ _ rfl (HT1.out.lay (.cells #[.int .i64 px] 3)).o2 ⟨V1.heap.size, 0, none⟩ 1 1 [.int .i64 px] rfl rfl (cell_one_new V1 _ _) (by intro u hu; simp at hu; rw [hu]; rfl) (by unfold maxLen; omega) (by omega) (by simp; omega) ?_; intro u2 V2 r2 g2 _ b2; have HT2 : Hid _ := HT1.out.app2 r2 g2 b2; obtain ⟨oo2, cc2, rfl⟩ := num_row r2; clear r2 g2 b2))
        go_roundw
        case rel => exact ⟨k + 1, by go_num, by omega, by rw [HE1.out, HE2.out]; exact HT2.out, ⟨oo1, cc1, by rw [HE1.out, List.length_append]; rfl⟩, oo2, cc2, by rw [HE2.out, List.length_append]; rfl⟩
        case measure => simp [intOf]; omega
      | false =>
        have HN : Hid _ := HNO.out rfl
        clear HHS HNO HHL HXL
        go_wp2_with (fail)
        go_roundw
        case rel => exact ⟨k + 1, by go_num, by omega, by rw [HN.out]; exact HT.out, ⟨o1, c1, by rw [HN.out]⟩, o2, c2, by rw [HN.out]⟩
        case measure => simp [intOf]; omega
    · obtain rfl : k = L.length := by omega
      go_wp2_with (fail)
      go_ret2
      exact ⟨_, _, rfl, HT.out⟩
end Go.Proofs.Ytoocenbmggfodaa
