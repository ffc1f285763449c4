/- A brick's corners, the three straight ways, a list's clone. -/
import Derived.Test.YthcdpngkoejgpaaShF
import Derived.Test.YthcdpngkoejgpaaShH
import Derived.Lib.BufferMore
namespace Go.Proofs.Ythcdpngkoejgpaa
open Go.RowKit Go.Shelf
set_option linter.unusedVariables false

def cornersP (h : Pt) : List Pt := [⟨-h.x, -h.y, -h.z⟩, ⟨-h.x, -h.y, h.z⟩, ⟨-h.x, h.y, -h.z⟩, ⟨-h.x, h.y, h.z⟩, ⟨h.x, -h.y, -h.z⟩, ⟨h.x, -h.y, h.z⟩, ⟨h.x, h.y, -h.z⟩, ⟨h.x, h.y, h.z⟩]
def straightP : List Pt := [⟨1, 0, 0⟩, ⟨0, 1, 0⟩, ⟨0, 0, 1⟩]
set_option maxHeartbeats 1000000 in
theorem straight_any (w : World) :
    Calls Try.prog 50 #[] w fun e W => ∃ u, e = .returned u ∧ Row w W u straightP := by
  go_enter Try.func50, Try.ntmps50
  go_wp2
  go_ret
  exact ⟨_, rfl, ⟨World.ownsRow_lit (e := 26) (size := 3) w _ 3 (Nat.le_refl _) (by unfold maxLen; omega) rfl, n_after w _⟩⟩
set_option maxHeartbeats 2000000 in
set_option maxRecDepth 100000 in
theorem clone_any (v : Value) (L : List Pt) (w : World) (hv : Lies w v L) (h0 : L ≠ []) (hl : L.length ≤ 100000) :
    Calls Try.prog 51 #[v] w fun e W => ∃ u, e = .returned u ∧ Row w W u L := by
  obtain ⟨i0, hii, hiz, hisz, hib⟩ := info_parts point_info
  have HI : Hid _ := And.intro hii (And.intro hiz (And.intro hisz hib))
  clear hii hiz hisz hib
  obtain ⟨o, cp, rfl, hlc, hcm, hx⟩ := hv.cells
  obtain ⟨g, off, rfl, hcell⟩ := hx.resolve_left h0
  have HC : Hid (∀ j u, (fl3 L)[j]? = some u → (w.alloc (.cells #[] 26)).cell? ((⟨g, off, none⟩ : Addr).add j) = some u) := fun j u hj => by
    have ad : (⟨g, off, none⟩ : Addr).add j = ⟨g, off + j, none⟩ := by unfold Addr.add; split <;> simp_all
    rw [ad]; exact c_after (n_after w _) (hcell j u hj)
  have HCL : Hid _ := fl3_length L
  clear hv hcell hx h0
  have hnil : ∀ W, (binOp .eql 22 (.slice (some ⟨g, off, none⟩) L.length cp) (.slice none 0 0)).run Try.prog W = .ok (.bool false) W := fun W => Lib.run_eql_slice_some_nil W _ _ _ Try.underlying22
  go_enter Try.func51, Try.ntmps51
  go_wp2_with (at_builtin; refine wpList_append_own _ rfl _ _ 22 rfl w.heap.size 26 i0 _ 3 24 Try.underlying22 HI.out.1 HI.out.2.1 HI.out.2.2.1 HI.out.2.2.2 rfl (by decide) _ 0 [] rfl (World.ownsRow_lit (e := 26) (size := 3) w #[] 0 (Nat.le_refl _) (by unfold maxLen; omega) rfl) ⟨g, off, none⟩ L.length cp (fl3 L) rfl HCL.out HC.out (fl3_one L) (by unfold maxLen; omega) (by omega) (by simp) ?_; intro u9 V2 r8 g8 _)
  go_ret
  rw [Nat.zero_add, List.nil_append] at r8
  exact ⟨_, rfl, r8, ((Below.refl _ w).alloc (Nat.le_refl _) _).grown g8 (by simp) (fun k e => by cases e; exact Nat.le_refl _)⟩
def sg (i : Nat) (x : Int) : Int := if i = 0 then -x else x
theorem idx_any (i : Nat) (hi : i < 2) (x : Int) (W : World) : (Instr.index 106 (.agg #[.int .i64 (-x), .int .i64 x]) (.int .i64 (i : Int))).run Try.prog W = .ok (.int .i64 (sg i x)) W := by
  have : i = 0 ∨ i = 1 := by omega
  rcases this with rfl | rfl
  · simp [Instr.index, run_underlying Try.underlying106, asIntOf, go_sem, sg]
  · simp [Instr.index, run_underlying Try.underlying106, asIntOf, go_sem, sg]
theorem corner_next (h : Pt) (i j k : Nat) (hi : i < 2) (hj : j < 2) (hk : k < 2) : (cornersP h).take (4 * i + 2 * j + k) ++ [⟨sg i h.x, sg j h.y, sg k h.z⟩] = (cornersP h).take (4 * i + 2 * j + (k + 1)) := by
  have h1 : i = 0 ∨ i = 1 := by omega
  have h2 : j = 0 ∨ j = 1 := by omega
  have h3 : k = 0 ∨ k = 1 := by omega
  rcases h1 with rfl | rfl <;> rcases h2 with rfl | rfl <;> rcases h3 with rfl | rfl <;> rfl
set_option maxHeartbeats 2000000 in
set_option maxRecDepth 100000 in
theorem corners_any (h : Pt) (w : World) (hh : h.inB 1152921504606846976 = true) :
    Calls Try.prog 49 #[h.v] w fun e W => ∃ u, e = .returned u ∧ Row w W u (cornersP h) := by
  obtain ⟨i0, hii, hiz, hisz, hib⟩ := info_parts point_info
  have HI : Hid _ := And.intro hii (And.intro hiz (And.intro hisz hib))
  clear hii hiz hisz hib
  have HT : Hid _ := (Two.start w).new h 26
  rw [Pt.inB_iff] at hh
  unfold Pt.v
  have HCP : Hid (∀ M, M = (cornersP h).take 8 → M = cornersP h) := fun M hM => by rw [hM]; rfl
  have HNX : Hid _ := fun i j k => corner_next h i j k
  have hbx := HT.out.head
  obtain ⟨c0, c1, c2, _, _, _⟩ := hbx
  dsimp only at c0 c1 c2
  go_enter Try.func49, Try.ntmps49
  go_wp2_with (fail)
  clear c0 c1 c2
  go_loopg [3, 16] 2 (fun gm u s wr => ∃ (i : Nat) (D : List Pt) (oo : Option Addr) (cc : Nat), u = .slice oo D.length cc ∧ s = .int .i64 (i : Int) ∧ i ≤ 2 ∧ gm = 2 - i ∧ D.length ≤ 4 * i ∧ Hid (D = (cornersP h).take (4 * i)) ∧ Hid (Two w wr (.slice oo D.length cc) (.slice none 0 0) D [] [(w.heap.size, h)]))
  case atStart => exact ⟨0, [], none, 0, rfl, rfl, by omega, rfl, by simp, rfl, HT⟩
  case round =>
    clear HT
    obtain ⟨i, D, oo, cc, rfl, rfl, hi, hgm, hDl, HD, HT⟩ := hrel
    have HG1 : Hid _ := hgm
    clear hgm
    by_cases hit : i < 2
    · have ix := idx_any i hit h.x
      obtain ⟨c0, c1, c2, _, _, _⟩ := HT.out.head
      dsimp only at c0 c1 c2
      generalize hsx : sg i h.x = sx at *
      have HSX : Hid _ := hsx
      clear hsx
      go_wp2_with (fail)
      clear c0 c1 c2 ix
      go_loopg [3, 25] 2 (fun gm u s wr => ∃ (j : Nat) (D : List Pt) (oo : Option Addr) (cc : Nat), u = .slice oo D.length cc ∧ s = .int .i64 (j : Int) ∧ j ≤ 2 ∧ gm = 2 - j ∧ D.length ≤ 4 * i + 2 * j ∧ Hid (D = (cornersP h).take (4 * i + 2 * j)) ∧ Hid (Two w wr (.slice oo D.length cc) (.slice none 0 0) D [] [(w.heap.size, h)]))
      case atStart => exact ⟨0, D, oo, cc, rfl, rfl, by omega, rfl, by omega, HD, HT⟩
      case round =>
        clear HT HD hDl
        obtain ⟨j, D, oo, cc, rfl, rfl, hj, hgm, hDl, HD, HT⟩ := hrel
        have HG2 : Hid _ := hgm
        clear hgm
        by_cases hjt : j < 2
        · have ix := idx_any j hjt h.y
          obtain ⟨c0, c1, c2, _, _, _⟩ := HT.out.head
          dsimp only at c0 c1 c2
          generalize hsy : sg j h.y = sy at *
          have HSY : Hid _ := hsy
          clear hsy
          go_wp2_with (fail)
          clear c0 c1 c2 ix
          go_loopg [3, 34] 2 (fun gm u s wr => ∃ (k : Nat) (D : List Pt) (oo : Option Addr) (cc : Nat), u = .slice oo D.length cc ∧ s = .int .i64 (k : Int) ∧ k ≤ 2 ∧ gm = 2 - k ∧ D.length ≤ 4 * i + 2 * j + k ∧ Hid (D = (cornersP h).take (4 * i + 2 * j + k)) ∧ Hid (Two w wr (.slice oo D.length cc) (.slice none 0 0) D [] [(w.heap.size, h)]))
          case atStart => exact ⟨0, D, oo, cc, rfl, rfl, by omega, rfl, by omega, HD, HT⟩
          case round =>
            clear HT HD hDl
            obtain ⟨k, D, oo, cc, rfl, rfl, hk, hgm, hDl, HD, HT⟩ := hrel
            have HG3 : Hid _ := hgm
            clear hgm
            by_cases hkt : k < 2
            · have ix := idx_any k hkt h.z
              have HN : Hid (D ++ [⟨sx, sy, sg k h.z⟩] = (cornersP h).take (4 * i + 2 * j + (k + 1))) := by show _ = _; rw [HD.out, ← HNX.out i j k hit hjt hkt, HSX.out, HSY.out]
              clear HD
              generalize sg k h.z = sz at *
              have hws := HT.out.below.size
              go_wp2_with (at_builtin; refine wpList_append_own_at _ rfl _ _ 22 rfl w.heap.size 26 i0 _ 3 24 Try.underlying22 HI.out.1 HI.out.2.1 HI.out.2.2.1 HI.out.2.2.2 rfl (by decide) _ _ _ rfl (own_below HT.out.ra (n_after wr _)) ⟨wr.heap.size, 0, none⟩ 1 1 [.int .i64 sx, .int .i64 sy, .int .i64 sz] rfl rfl (news_at (heap_alloc_new wr _)) (by intro u hu; simp at hu; rcases hu with rfl | rfl | rfl <;> rfl) (by unfold maxLen; omega) (by omega) (by simp; omega) ?_; intro u9 V6 r8 g8 _ s8; obtain ⟨gg8, kk8, rfl⟩ := ownsRow_succ r8; have HT : Hid _ := (HT.out.step (n_after wr _)).axis (A' := D ++ [⟨sx, sy, sz⟩]) (by rw [fl3_append, List.length_append]; exact r8) ⟨g8, (by rcases s8 with e | e; exact Or.inl e; exact Or.inr ⟨_, e, Nat.le_refl _⟩)⟩; clear r8 g8 s8)
              go_roundg (2 - (k + 1))
              case measure => have := HG3.out; omega
              case rel => exact ⟨k + 1, D ++ [⟨sx, sy, sz⟩], some ⟨gg8, 0, none⟩, kk8, by rw [List.length_append]; rfl, by go_num, by omega, rfl, by rw [List.length_append]; simp; omega, HN, by rw [List.length_append]; exact HT⟩
            · have e : k = 2 := by omega
              subst e
              have HD : Hid (D = (cornersP h).take (4 * i + 2 * (j + 1))) := by show _ = _; rw [HD.out, show 4 * i + 2 * j + 2 = 4 * i + 2 * (j + 1) by omega]
              go_wp2_with (fail)
              go_roundg (2 - (j + 1))
              case measure => have := HG2.out; omega
              case rel => exact ⟨j + 1, D, oo, cc, rfl, by go_num, by omega, rfl, by omega, HD, HT⟩
        · have e : j = 2 := by omega
          subst e
          have HD : Hid (D = (cornersP h).take (4 * (i + 1))) := by show _ = _; rw [HD.out, show 4 * i + 2 * 2 = 4 * (i + 1) by omega]
          go_wp2_with (fail)
          go_roundg (2 - (i + 1))
          case measure => have := HG1.out; omega
          case rel => exact ⟨i + 1, D, oo, cc, rfl, by go_num, by omega, rfl, by omega, HD, HT⟩
    · have e : i = 2 := by omega
      subst e
      have HD := HCP.out D HD.out
      subst HD
      go_wp2_with (fail)
      go_ret
      exact ⟨_, rfl, HT.out.ra, HT.out.below⟩
end Go.Proofs.Ythcdpngkoejgpaa
