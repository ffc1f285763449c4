/- Chapter 4's example; slices of pairs that came in, opened. -/
import Derived.Test.YtdfgimfihejjhaaPairI
import Derived.Test.YtdfgimfihejjhaaRows
import Derived.OpenShut
import Derived.ShutString
import Derived.ChangeOld
import Derived.Deep.Grids
namespace Go.Proofs.Ytdfgimfihejjhaa
open Go.ChangeShapes Go.WideShapes Go.ChangeAt Go.RowKit Go.Shelf
set_option linter.unusedVariables false

set_option maxRecDepth 100000 in
set_option maxHeartbeats 4000000 in
theorem awake_any (w : World) : Calls Try.prog 4 #[] w fun e w' => e = .returned (.bool true) ∧ Below w.heap.size w w' := by
  go_enter Try.func4, Try.ntmps4
  go_wp2_with (fail)
  refine (new_yes 3 w.heap.size w (by omega) (by omega)).mono ?_
  rintro e W0 ⟨sp, rfl, hsp, hs, hB⟩
  have HB : Hid (Below w.heap.size w W0) := hB
  have HS : Hid (IsSet W0 sp w.heap.size (.slice none 0 0) 3 []) := hs
  clear hB hs
  go_wp2_with (fail)
  refine (of_any 5 2 W0).mono ?_
  rintro e W1 ⟨rfl, hb⟩
  have HS : Hid _ := HS.out.below hb
  have HB : Hid _ := HB.out.trans (hb.mono HB.out.size)
  clear hb
  have P1 : Calls Try.prog 14 #[.pointer (some ⟨sp, 0, none⟩), .agg #[.int .i64 2, .int .i64 5]] W1 fun e W => e = .returned (.tuple #[.bool true, .int .i64 0]) ∧ ∃ v', IsSet W sp w.heap.size v' 3 [⟨2, 5⟩] ∧ Ch W1 W sp none ∧ _ := put_any sp w.heap.size _ 3 [] ⟨2, 5⟩ W1 HS.out HB.out.size
  have HP : Hid _ := P1
  clear P1
  rw [show (Pr.v ⟨min 5 2, max 5 2⟩) = .agg #[.int .i64 2, .int .i64 5] from rfl]
  go_wp2_with (fail)
  refine Calls.mono HP.out ?_
  clear HP
  rintro e W2 ⟨rfl, v2, hs, hch, _⟩
  have HB : Hid (Below w.heap.size w W2) := hch.below HB.out HB.out.size hsp (fun k e => by cases e)
  have HS : Hid _ := hs
  clear hs hch
  have P1 : Calls Try.prog 14 #[.pointer (some ⟨sp, 0, none⟩), .agg #[.int .i64 2, .int .i64 5]] W2 fun e W => e = .returned (.tuple #[.bool false, .int .i64 0]) ∧ ∃ v', IsSet W sp w.heap.size v' 3 [⟨2, 5⟩] ∧ Ch W2 W sp v2.ownBlock ∧ _ := put_any sp w.heap.size v2 3 [⟨2, 5⟩] ⟨2, 5⟩ W2 HS.out HB.out.size
  have HP : Hid _ := P1
  clear P1
  go_wp2_with (fail)
  refine Calls.mono HP.out ?_
  clear HP
  rintro e W3 ⟨rfl, v3, hs, hch, _⟩
  have HB : Hid (Below w.heap.size w W3) := hch.below HB.out HB.out.size hsp (fun k e => (HS.out.own.lt k e).1)
  have HS : Hid _ := hs
  clear hs hch
  have P1 : Calls Try.prog 14 #[.pointer (some ⟨sp, 0, none⟩), .agg #[.int .i64 5, .int .i64 2]] W3 fun e W => e = .returned (.tuple #[.bool false, .int .i64 1]) ∧ ∃ v', IsSet W sp w.heap.size v' 3 [⟨2, 5⟩] ∧ Ch W3 W sp v3.ownBlock ∧ _ := put_any sp w.heap.size v3 3 [⟨2, 5⟩] ⟨5, 2⟩ W3 HS.out HB.out.size
  have HP : Hid _ := P1
  clear P1
  go_wp2_with (fail)
  refine Calls.mono HP.out ?_
  clear HP
  rintro e W4 ⟨rfl, v4, hs, hch, _⟩
  have HB : Hid (Below w.heap.size w W4) := hch.below HB.out HB.out.size hsp (fun k e => (HS.out.own.lt k e).1)
  have HS : Hid _ := hs
  clear hs hch
  have P1 : Calls Try.prog 14 #[.pointer (some ⟨sp, 0, none⟩), .agg #[.int .i64 1, .int .i64 9]] W4 fun e W => e = .returned (.tuple #[.bool true, .int .i64 0]) ∧ ∃ v', IsSet W sp w.heap.size v' 3 [⟨1, 9⟩, ⟨2, 5⟩] ∧ Ch W4 W sp v4.ownBlock ∧ _ := put_any sp w.heap.size v4 3 [⟨2, 5⟩] ⟨1, 9⟩ W4 HS.out HB.out.size
  have HP : Hid _ := P1
  clear P1
  go_wp2_with (fail)
  refine Calls.mono HP.out ?_
  clear HP
  rintro e W5 ⟨rfl, v5, hs, hch, _⟩
  have HB : Hid (Below w.heap.size w W5) := hch.below HB.out HB.out.size hsp (fun k e => (HS.out.own.lt k e).1)
  have HS : Hid _ := hs
  clear hs hch
  go_wp2_with (fail)
  refine (all_any sp w.heap.size v5 3 [⟨1, 9⟩, ⟨2, 5⟩] W5 HS.out).mono ?_
  rintro e W6 ⟨u, rfl, hu, hb⟩
  have HS : Hid _ := HS.out.below hb
  have HB : Hid _ := HB.out.trans (hb.mono HB.out.size)
  have HU : Hid (W6.ownsRow W5.heap.size 35 2 u 2 (flat [⟨1, 9⟩, ⟨2, 5⟩])) := hu
  clear hb hu
  have hsm := same_any u (.slice (some ⟨W6.heap.size, 0, none⟩) 2 2) [⟨1, 9⟩, ⟨2, 5⟩] [⟨1, 9⟩, ⟨2, 5⟩] (W6.alloc (.cells #[.int .i64 1, .int .i64 9, .int .i64 2, .int .i64 5] 35))
    (Lies.of_row (base := W5.heap.size) (World.ownsRow.alloc HU.out _)) (Lies.of_row (base := 0) (World.ownsRow_lit (e := 35) (size := 2) W6 #[.int .i64 1, .int .i64 9, .int .i64 2, .int .i64 5] 2 (Nat.zero_le _) (by unfold maxLen; omega) rfl))
  have HSM : Hid _ := hsm
  clear hsm
  go_wp2_with (fail)
  refine Calls.mono HSM.out ?_
  clear HSM
  rintro e W7 ⟨rfl, hb⟩
  have hb2 : Below W6.heap.size W6 W7 := ((Below.refl _ W6).alloc (Nat.le_refl _) _).trans (hb.mono (by simp))
  have HS : Hid _ := HS.out.below hb2
  have HB : Hid _ := HB.out.trans (hb2.mono HB.out.size)
  clear hb hb2
  have P1 : Calls Try.prog 12 #[.pointer (some ⟨sp, 0, none⟩), .int .i64 9] W7 fun e W => e = .returned (.int .i64 1) ∧ ∃ v', IsSet W sp w.heap.size v' 3 [⟨2, 5⟩] ∧ Ch W7 W sp v5.ownBlock ∧ _ := without_any sp w.heap.size v5 3 [⟨1, 9⟩, ⟨2, 5⟩] 9 W7 HS.out
  have HP : Hid _ := P1
  clear P1
  simp only [decide_true]
  go_wp2_with (fail)
  refine Calls.mono HP.out ?_
  clear HP
  rintro e W8 ⟨rfl, v8, hs, hch, _⟩
  have HB : Hid (Below w.heap.size w W8) := hch.below HB.out HB.out.size hsp (fun k e => (HS.out.own.lt k e).1)
  clear hs hch
  go_wp2_with (fail)
  go_ret
  exact ⟨rfl, HB.out⟩

/-- A slice of pairs that came in. -/
structure In (W : World) (a : Option Addr) (len cap : Nat) (l : Nat → Pr) : Prop where
  le : len ≤ cap
  big : cap ≤ 9223372036854775807
  nil : a = none → len = 0 ∧ cap = 0
  at_ : len = 0 ∨ ∃ b off, a = some ⟨b, off, none⟩ ∧ ∀ i, i < len → W.cell? ⟨b, off + i * 2, none⟩ = some (.int .i64 (l i).a) ∧ W.cell? ⟨b, off + i * 2 + 1, none⟩ = some (.int .i64 (l i).b)

theorem pairs_of {H : Type} {enc : TypeId × Value → H} {W : World} {base : Nat} {spare : Nat → Bool} {held : Bool} {a : Option Addr} {len cap fuel : Nat} {x : DataW H × List MemPlace}
    (h : DataW.trod enc Try.prog W base spare held fuel 43 [.slice a len cap] = some x) : ∃ l : Nat → Pr, In W a len cap l := by
  rcases Deep.open_slice Try.underlying43 h with ⟨hcs, _⟩ | ⟨y, l, c, m, n, D, Pl, hcs, _, hl, hm, hmm, _, hx⟩
  · simp at hcs
    obtain ⟨rfl, rfl, rfl⟩ := hcs
    exact ⟨fun _ => default, ⟨by omega, by omega, fun _ => ⟨rfl, rfl⟩, Or.inl rfl⟩⟩
  · simp at hcs
    obtain ⟨rfl, rfl, rfl⟩ := hcs
    unfold maxLen at hm
    have hlm : len ≤ m := by rw [hmm]; split <;> omega
    have hc2 : Try.prog.cellsOf 35 = 2 := by kernel_rfl
    have hc1 : Try.prog.cellsOf 33 = 1 := by kernel_rfl
    have each : ∀ i, i < len → ∃ (p q : Int), W.cell? ((y.add (i * 2)).add 0) = some (.int .i64 p) ∧ W.cell? ((y.add (i * 2)).add 1) = some (.int .i64 q) := by
      intro i hi
      obtain ⟨cs', hcells, ht⟩ := hx i (by omega)
      rw [hc2] at hcells
      obtain ⟨_, hlen, hcell⟩ := World.cells?_some hcells
      obtain ⟨xs, k, _, _, _, hxl, hel⟩ := DataW.trod_struct Try.underlying35 ht
      have get : ∀ (v : Value) (j : Nat), ((cs'.drop j).take 1) = [v] → cs'[j]? = some v := fun v j h => by
        have h2 : ((cs'.drop j).take 1)[0]? = some v := by rw [h]; rfl
        simpa [List.getElem?_take, List.getElem?_drop] using h2
      have some_of : ∀ j, j < 2 → ∃ z, xs[j]? = some z := fun j hj => ⟨_, List.getElem?_eq_getElem (by rw [hxl]; exact hj)⟩
      have e0 := hel 0 _ rfl
      have e1 := hel 1 _ rfl
      obtain ⟨z0, hz0⟩ := some_of 0 (by omega)
      obtain ⟨z1, hz1⟩ := some_of 1 (by omega)
      rw [hz0] at e0
      rw [hz1] at e1
      obtain ⟨p, hp, _, wp⟩ := DataW.trod_int Try.underlying33 e0
      obtain ⟨q, hq, _, wq⟩ := DataW.trod_int Try.underlying33 e1
      have hp2 : (cs'.drop 0).take (Try.prog.cellsOf 33) = [.int .i64 p] := hp
      have hq2 : (cs'.drop 1).take (Try.prog.cellsOf 33) = [.int .i64 q] := hq
      rw [hc1] at hp2 hq2
      exact ⟨p, q, (hcell 0 (by omega)).trans (get _ 0 hp2), (hcell 1 (by omega)).trans (get _ 1 hq2)⟩
    have ch : ∃ (l : Nat → Pr), ∀ i, i < len → W.cell? ((y.add (i * 2)).add 0) = some (.int .i64 (l i).a) ∧ W.cell? ((y.add (i * 2)).add 1) = some (.int .i64 (l i).b) := by
      refine ⟨fun i => if h : i < len then ⟨(each i h).choose, (each i h).choose_spec.choose⟩ else default, fun i hi => ?_⟩
      simp only [dif_pos hi]
      exact (each i hi).choose_spec.choose_spec
    obtain ⟨l, hall⟩ := ch
    refine ⟨l, ⟨hl, by omega, (fun e => by cases e), ?_⟩⟩
    by_cases h0 : len = 0
    · exact Or.inl h0
    · right
      obtain ⟨b, off, spot⟩ := y
      have c0 := (hall 0 (by omega)).1
      have hs : spot = none := by simpa [Addr.add] using World.cell?_spot c0
      subst hs
      have ad : ∀ i j, ((⟨b, off, none⟩ : Addr).add (i * 2)).add j = ⟨b, off + i * 2 + j, none⟩ := fun i j => by
        unfold Addr.add
        split <;> split <;> simp_all
      refine ⟨b, off, rfl, fun i hi => ?_⟩
      obtain ⟨h0, h1⟩ := hall i hi
      rw [ad] at h0 h1
      exact ⟨h0, h1⟩
end Go.Proofs.Ytdfgimfihejjhaa
