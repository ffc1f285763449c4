/- slices.Insert of one pair. -/
import Derived.Test.YtbbmjfaflcbimaaPairB
namespace Go.Proofs.Ytbbmjfaflcbimaa
open Go.RowKit Go.Shelf
set_option linter.unusedVariables false

theorem news_at {w : World} {vb : Nat} {x y : Value} {t : TypeId} (h : w.heap[vb]? = some (.cells #[x, y] t (0, 0))) : ∀ j u, [x, y][j]? = some u → w.cell? ((⟨vb, 0, none⟩ : Addr).add j) = some u := by
  intro j u hj
  match j, hj with
  | 0, hj => simp at hj; subst hj; simp [Addr.add, World.cell?, h]
  | 1, hj => simp at hj; subst hj; simp [Addr.add, World.cell?, h]
  | j + 2, hj => simp at hj

set_option maxHeartbeats 4000000 in
set_option maxRecDepth 100000 in
/-- At the end. -/
theorem insert_end (base n vb : Nat) (v : Value) (xs : List Value) (pa pb : Int) (w : World) (hown : w.ownsRow base 60 2 v n xs) (hvb : w.heap[vb]? = some (.cells #[.int .i64 pa, .int .i64 pb] 60 (0, 0))) (hn : n ≤ 4096) (hbase : base ≤ w.heap.size) :
    Calls Try.prog 32 #[v, .int .i64 (n : Int), .slice (some ⟨vb, 0, none⟩) 1 1] w fun e W => ∃ v', e = .returned v' ∧ W.ownsRow base 60 2 v' (n + 1) (xs ++ [.int .i64 pa, .int .i64 pb]) ∧ w.grownBy W v.ownBlock ∧ (v'.ownBlock = v.ownBlock ∨ v'.ownBlock = some w.heap.size) := by
  obtain ⟨i0, hii, hiz, hisz, hib⟩ := info_parts pair_info
  obtain ⟨v', w', hr, h2, h3, h4, h5⟩ := run_append_own_at (P := Try.prog) w base 50 50 60 i0 _ 2 16 Try.underlying50 hii hiz hisz hib rfl (by omega) v n xs hown ⟨vb, 0, none⟩ 1 1 [.int .i64 pa, .int .i64 pb] rfl (news_at hvb) (by intro u hu; simp at hu; rcases hu with rfl | rfl <;> rfl) (by unfold maxLen; omega) (by omega) hbase
  have HF : Hid _ := And.intro h2 (And.intro h3 h5)
  have HR : Hid _ := hr
  clear h2 h3 h4 h5 hr
  rcases hown.2 with ⟨rfl, rfl⟩ | ⟨g, cap, cur, rfl, hb, hg, h1, h2, h3, h4⟩
  · clear hown hvb hii hiz hisz hib
    go_enter Try.func32, Try.ntmps32
    go_wp2_with (at_builtin; refine Lib.wpList_append_run _ rfl _ _ _ _ rfl _ _ rfl rfl _ _ HR.out ?_)
    go_ret
    exact ⟨_, rfl, HF.out⟩
  · have hcm : cap ≤ 9223372036854775807 := by unfold maxLen at h2; omega
    clear hown hvb hii hiz hisz hib hg h3 h4 h2
    go_enter Try.func32, Try.ntmps32
    go_wp2_with (at_builtin; refine Lib.wpList_append_run _ rfl _ _ _ _ rfl _ _ rfl rfl _ _ HR.out ?_)
    all_goals (go_ret; exact ⟨_, rfl, HF.out⟩)

set_option maxHeartbeats 4000000 in
set_option maxRecDepth 100000 in
/-- There is room. -/
theorem insert_shift (base g n cap i vb : Nat) (xs : List Value) (pa pb : Int) (w : World) (hown : w.ownsRow base 60 2 (.slice (some ⟨g, 0, none⟩) n cap) n xs) (h1 : ∀ u ∈ xs, u.oneCell' = true) (hvb : w.heap[vb]? = some (.cells #[.int .i64 pa, .int .i64 pb] 60 (0, 0))) (hne : vb ≠ g) (hi : i < n) (hroom : n + 1 ≤ cap) :
    Calls Try.prog 32 #[.slice (some ⟨g, 0, none⟩) n cap, .int .i64 (i : Int), .slice (some ⟨vb, 0, none⟩) 1 1] w fun e W => e = .returned (.slice (some ⟨g, 0, none⟩) (n + 1) cap) ∧ W.ownsRow base 60 2 (.slice (some ⟨g, 0, none⟩) (n + 1) cap) (n + 1) (xs.take (i * 2) ++ [.int .i64 pa, .int .i64 pb] ++ xs.drop (i * 2)) ∧ w.grownBy W (some g) := by
  obtain ⟨cur, hb, hg, hnc, hcm, hcs, htk⟩ := owns_cur hown
  have hlen := hown.1
  obtain ⟨i0, hii, hiz, hisz, hib⟩ := info_parts pair_info
  have hcm' : cap ≤ 9223372036854775807 := by unfold maxLen at hcm; omega
  have mixed : Try.prog.follows Departure.mixedOrders = true := by kernel_rfl
  have hov : ∀ lb cb, (callFunc 43 #[.slice (some ⟨vb, 0, none⟩) 1 1, .slice (some ⟨g, (i + 1) * 2, none⟩) lb cb]).run Try.prog w = .ok (.value (.bool false)) w := fun lb cb => by
    rw [run_callFunc_extern Try.func43 (by kernel_rfl) (by kernel_rfl) (by kernel_rfl) (e := Extern.SlicesOverlaps.overlaps #[50, 50] #[4]) (by kernel_rfl),
      Lib.run_overlaps_apart w 50 4 60 Try.underlying50 2 (fun w => by simp [Go.sizeOf, typeInfo, hii, hisz]) ⟨vb, 0, none⟩ ⟨g, (i + 1) * 2, none⟩ 1 1 lb cb hne 60 60 2 cur.size (by simp [World.shape?, hvb]) (by simp [World.shape?, hg]) (by rw [hcs]; omega) (by simp [World.frozen?, hvb]) (by simp [World.frozen?, hvb])]
    rfl
  obtain ⟨tl, htl⟩ : ∃ tl, tl = xs.drop (i * 2) := ⟨_, rfl⟩
  have htll : tl.length = (n - i) * 2 := by rw [htl, List.length_drop, hlen]; omega
  have hgd : w.drew.heap[g]? = some (.cells cur 60 (0, 0)) := hg
  obtain ⟨cur1, hcur1⟩ : ∃ cur1, cur1 = (cur.toList.take ((i + 1) * 2) ++ tl ++ cur.toList.drop ((i + 1) * 2 + tl.length)).toArray := ⟨_, rfl⟩
  have hcp1 : ∀ ty, (Builtin.copy_ #[50, 50] ty #[.slice (some ⟨g, (i + 1) * 2, none⟩) (n - i) (cap - (i + 1)), .slice (some ⟨g, i * 2, none⟩) (n + 1 - i) (cap - i)]).run Try.prog w.drew = .ok (goInt ((n - i : Nat) : Int)) (w.drew.setRow g cur1) := fun ty => by
    have e : Nat.min (n + 1 - i) (n - i) = n - i := by simp only [Nat.min_def]; split <;> omega
    have := copy_row (P := Try.prog) w.drew 50 50 ty 60 2 g ((i + 1) * 2) (n - i) (cap - (i + 1)) ⟨g, i * 2, none⟩ (n + 1 - i) (cap - i) cur _ tl Try.underlying50 pair_size hgd (by rw [htll, e])
      (fun j u hj => by
        have hjl : j < tl.length := (List.getElem?_eq_some_iff.1 hj).1
        rw [htl, List.getElem?_drop] at hj
        rw [Addr.add_lit]
        exact (hown.cellAt (i * 2 + j) (by omega)).trans hj)
      (by rw [htll, hcs]; omega) (fun u hu => h1 u (List.mem_of_mem_drop (htl ▸ hu)))
    rw [e, ← hcur1] at this
    exact this
  have hs1 : cur1.size = cap * 2 := by rw [hcur1]; simp only [List.size_toArray, List.length_append, List.length_take, List.length_drop, Array.length_toList, htll, hcs]; omega
  obtain ⟨W1, hW1⟩ : ∃ W1, W1 = w.drew.setRow g cur1 := ⟨_, rfl⟩
  have hg1 : W1.heap[g]? = some (.cells cur1 60 (0, 0)) := by rw [hW1]; exact setRow_heap w.drew g cur _ _ _ hgd
  have hv1 : W1.heap[vb]? = some (.cells #[.int .i64 pa, .int .i64 pb] 60 (0, 0)) := by rw [hW1, setRow_other _ _ _ _ hne]; exact hvb
  rw [← hW1] at hcp1
  obtain ⟨cur2, hcur2⟩ : ∃ cur2, cur2 = (cur1.toList.take (i * 2) ++ [Value.int .i64 pa, .int .i64 pb] ++ cur1.toList.drop (i * 2 + [Value.int .i64 pa, .int .i64 pb].length)).toArray := ⟨_, rfl⟩
  have hcp2 : ∀ ty, (Builtin.copy_ #[50, 50] ty #[.slice (some ⟨g, i * 2, none⟩) (n + 1 - i) (cap - i), .slice (some ⟨vb, 0, none⟩) 1 1]).run Try.prog W1 = .ok (goInt 1) (W1.setRow g cur2) := fun ty => by
    have e : Nat.min 1 (n + 1 - i) = 1 := by simp only [Nat.min_def]; split <;> omega
    have := copy_row (P := Try.prog) W1 50 50 ty 60 2 g (i * 2) (n + 1 - i) (cap - i) ⟨vb, 0, none⟩ 1 1 cur1 _ [.int .i64 pa, .int .i64 pb] Try.underlying50 pair_size hg1 (by rw [e]; rfl) (news_at hv1)
      (by rw [hs1]; simp only [List.length_cons, List.length_nil]; omega) (by intro u hu; simp at hu; rcases hu with rfl | rfl <;> rfl)
    rw [e, ← hcur2] at this
    exact this
  have hs2 : cur2.size = cap * 2 := by rw [hcur2]; simp only [List.size_toArray, List.length_append, List.length_take, List.length_drop, Array.length_toList, List.length_cons, List.length_nil, hs1]; omega
  have ht2 : cur2.toList.take ((n + 1) * 2) = xs.take (i * 2) ++ [.int .i64 pa, .int .i64 pb] ++ tl := by
    have e1 : cur1.toList.take (i * 2) = xs.take (i * 2) := by
      rw [hcur1, ← htk, List.take_take, List.append_assoc, List.take_append_of_le_length (by simp [hcs]; omega), List.take_take]
      congr 1; omega
    have e3 : cur1.toList.drop (i * 2 + [Value.int .i64 pa, .int .i64 pb].length) = tl ++ cur.toList.drop ((i + 1) * 2 + tl.length) := by
      rw [hcur1, List.append_assoc]
      have : (cur.toList.take ((i + 1) * 2)).length = i * 2 + [Value.int .i64 pa, .int .i64 pb].length := by simp [hcs]; omega
      rw [← this]
      exact List.drop_left
    have e4 : (xs.take (i * 2) ++ [Value.int .i64 pa, .int .i64 pb] ++ tl).length = (n + 1) * 2 := by simp only [List.length_append, List.length_take, hlen, htll, List.length_cons, List.length_nil]; omega
    rw [hcur2, e1, e3, ← e4, List.toList_toArray, ← List.append_assoc]
    exact List.take_left
  have hfin : (W1.setRow g cur2).ownsRow base 60 2 (.slice (some ⟨g, 0, none⟩) (n + 1) cap) (n + 1) (xs.take (i * 2) ++ [.int .i64 pa, .int .i64 pb] ++ tl) := owns_set hb hg1 hroom hcm cur2 hs2 ht2 (by simp only [List.length_append, List.length_take, hlen, htll, List.length_cons, List.length_nil]; omega)
  have hgr : w.grownBy (W1.setRow g cur2) (some g) := by
    have a0 := grown_set w.drew g cur1
    have a : w.grownBy W1 (some g) := by rw [hW1]; exact ⟨a0.os, a0.tape, a0.output, a0.size, a0.block⟩
    exact a.trans (grown_set W1 g cur2)
  rw [← htl]
  have HF : Hid _ := And.intro hfin hgr
  have HC1 : Hid _ := hcp1
  have HC2 : Hid _ := hcp2
  have hb1 : (0 : Int) ≤ (i : Int) + 1 := by omega
  have hin : i ≤ n := by omega
  have htn : ((i : Int) + 1).toNat = i + 1 := by omega
  have hb2 : ¬ (cap = i + 1) := by omega
  have hb3 : (i : Int) ≤ (n : Int) + 1 := by omega
  have hb4 : ¬ (cap = i) := by omega
  have hb5 : (i : Int) + 1 ≤ (n : Int) + 1 := by omega
  have hz2 : ¬ ((i : Int) = (n : Int)) := by omega
  have hw1 : IntKind.i64.wrap ((i : Int) + 1) = (i : Int) + 1 := by rw [IntKind.wrap_i64]; omega
  clear hfin hgr hcp2 ht2 hs2 hcur2 hcp1 hv1 hg1 hW1 hs1 hcur1 hgd htll htl hlen htk hcs hcm hg hb hown h1 hvb hii hiz hisz hib
  go_enter Try.func32, Try.ntmps32
  go_wp2_with (simp only [hov])
  go_region_law_o (refine step_copyR rfl _ _ 50 50 rfl _ _ (by simp [Act.eval, Act.put]) (by simp [Act.eval, Act.put]) HC1.out ?_)
  have hcp2 := HC2.out
  go_wp2
  go_ret
  exact ⟨rfl, HF.out⟩

set_option maxHeartbeats 4000000 in
set_option maxRecDepth 100000 in
/-- There is no room. -/
theorem insert_grow (base g n cap i vb : Nat) (xs : List Value) (pa pb : Int) (w : World) (hown : w.ownsRow base 60 2 (.slice (some ⟨g, 0, none⟩) n cap) n xs) (h1 : ∀ u ∈ xs, u.oneCell' = true) (hvb : w.heap[vb]? = some (.cells #[.int .i64 pa, .int .i64 pb] 60 (0, 0))) (hi : i < n) (hroom : cap < n + 1) (hn : n ≤ 4096) (hbase : base ≤ w.heap.size) :
    Calls Try.prog 32 #[.slice (some ⟨g, 0, none⟩) n cap, .int .i64 (i : Int), .slice (some ⟨vb, 0, none⟩) 1 1] w fun e W => ∃ G, e = .returned (.slice (some ⟨w.heap.size, 0, none⟩) (n + 1) G) ∧ W.ownsRow base 60 2 (.slice (some ⟨w.heap.size, 0, none⟩) (n + 1) G) (n + 1) (xs.take (i * 2) ++ [.int .i64 pa, .int .i64 pb] ++ xs.drop (i * 2)) ∧ w.grownBy W none := by
  obtain ⟨cur, hb, hg, hnc, hcm, hcs, htk⟩ := owns_cur hown
  obtain rfl : cap = n := by omega
  have hlen := hown.1
  obtain ⟨i0, hii, hiz, hisz, hib⟩ := info_parts pair_info
  have mixed : Try.prog.follows Departure.mixedOrders = true := by kernel_rfl
  have hgw : g < w.heap.size := (Array.getElem?_eq_some_iff.1 hg).1
  have hvw : vb < w.heap.size := (Array.getElem?_eq_some_iff.1 hvb).1
  have hold : (Builtin.firstCells i0.size i (.slice (some ⟨g, 0, none⟩) i cap)).run Try.prog w.drew = .ok (xs.take (i * 2)).toArray w.drew := by
    rw [hisz]
    exact run_firstCells_some w.drew 2 i ⟨g, 0, none⟩ i cap (xs.take (i * 2)) (by rw [List.length_take]; omega) (fun j v hj => by
      rw [Addr.add_lit, Nat.zero_add]
      rw [List.getElem?_take] at hj
      split at hj
      · exact (hown.cellAt j (by omega)).trans hj
      · cases hj)
  obtain ⟨G, hG⟩ : ∃ G, G = grownCap w (cap + 1) cap 60 := ⟨_, rfl⟩
  have hkk : (cap : Int) + 1 - (i : Int) = ((cap + 1 - i : Nat) : Int) := by omega
  have hik : i + (cap + 1 - i) = cap + 1 := by omega
  obtain ⟨ROW, hROW⟩ : ∃ ROW : Array Value, ROW = (xs.take (i * 2)).toArray ++ Builtin.zeroCells (Value.agg #[.int .i64 0, .int .i64 0]).cells (cap + 1 - i) ++ Builtin.zeroCells (Value.agg #[.int .i64 0, .int .i64 0]).cells (G - (cap + 1)) := ⟨_, rfl⟩
  have hrz : ∀ ty, (Builtin.append_ #[50, 3] ty #[.slice (some ⟨g, 0, none⟩) i cap, .int .i64 ((cap : Int) + 1 - (i : Int))]).run Try.prog w = .ok (.slice (some ⟨w.heap.size, 0, none⟩) (cap + 1) G) (w.drew.alloc (.cells ROW 60)) := fun ty => by
    have h := Lib.run_append_grow_zeros (P := Try.prog) w 50 3 ty 60 i0 _ .i64 .i64 Try.underlying50 Try.underlying3 hii hiz (some ⟨g, 0, none⟩) i cap (xs.take (i * 2)) hold (cap + 1 - i) (by omega) (by omega) (by omega) (by omega) (by rw [hib]; omega) (by rw [hib, hik]; exact growslice_fits hroom (by omega))
    rw [hik, ← hG, ← hROW] at h
    rw [hkk]
    exact h
  have hGn : cap + 1 ≤ G := by rw [hG]; exact grownCap_ge w _ _ _
  have hGm : G ≤ maxLen := by rw [hG]; exact grownCap_le_maxLen w (cap + 1) cap _ (by unfold maxLen; omega)
  have hRs : ROW.size = G * 2 := by
    rw [hROW]
    simp only [Array.size_append, List.size_toArray, size_zeroCells, List.length_take, hlen]
    simp [Value.cells]
    omega
  have hRt : ROW.toList.take (i * 2) = xs.take (i * 2) := by
    rw [hROW, Array.append_assoc, Array.toList_append, List.toList_toArray, List.take_append_of_le_length (by rw [List.length_take]; omega), List.take_take, Nat.min_self]
  obtain ⟨W1, hW1⟩ : ∃ W1, W1 = w.drew.alloc (.cells ROW 60) := ⟨_, rfl⟩
  have hg1 : W1.heap[w.heap.size]? = some (.cells ROW 60 (0, 0)) := by rw [hW1]; exact heap_alloc_new w.drew _
  have hv1 : W1.heap[vb]? = some (.cells #[.int .i64 pa, .int .i64 pb] 60 (0, 0)) := by rw [hW1]; exact (heap_alloc_old w.drew _ vb hvw).trans hvb
  have hgr1 : w.grownBy W1 none := by rw [hW1]; exact ⟨rfl, rfl, rfl, by simp, fun k hk _ => heap_alloc_old w.drew _ k hk⟩
  rw [← hW1] at hrz
  obtain ⟨cur1, hcur1⟩ : ∃ cur1, cur1 = (ROW.toList.take (i * 2) ++ [Value.int .i64 pa, .int .i64 pb] ++ ROW.toList.drop (i * 2 + [Value.int .i64 pa, .int .i64 pb].length)).toArray := ⟨_, rfl⟩
  have hcp1 : ∀ ty, (Builtin.copy_ #[50, 50] ty #[.slice (some ⟨w.heap.size, i * 2, none⟩) (cap + 1 - i) (G - i), .slice (some ⟨vb, 0, none⟩) 1 1]).run Try.prog W1 = .ok (goInt 1) (W1.setRow w.heap.size cur1) := fun ty => by
    have e : Nat.min 1 (cap + 1 - i) = 1 := by simp only [Nat.min_def]; split <;> omega
    have := copy_row (P := Try.prog) W1 50 50 ty 60 2 w.heap.size (i * 2) (cap + 1 - i) (G - i) ⟨vb, 0, none⟩ 1 1 ROW _ [.int .i64 pa, .int .i64 pb] Try.underlying50 pair_size hg1 (by rw [e]; rfl) (news_at hv1)
      (by rw [hRs]; simp only [List.length_cons, List.length_nil]; omega) (by intro u hu; simp at hu; rcases hu with rfl | rfl <;> rfl)
    rw [e, ← hcur1] at this
    exact this
  have hs1 : cur1.size = G * 2 := by rw [hcur1]; simp only [List.size_toArray, List.length_append, List.length_take, List.length_drop, Array.length_toList, List.length_cons, List.length_nil, hRs]; omega
  have ht1 : cur1.toList.take ((i + 1) * 2) = xs.take (i * 2) ++ [Value.int .i64 pa, .int .i64 pb] := by
    have e4 : (xs.take (i * 2) ++ [Value.int .i64 pa, .int .i64 pb]).length = (i + 1) * 2 := by simp only [List.length_append, List.length_take, hlen, List.length_cons, List.length_nil]; omega
    rw [hcur1, hRt, ← e4, List.toList_toArray]
    exact List.take_left
  obtain ⟨W2, hW2⟩ : ∃ W2, W2 = W1.setRow w.heap.size cur1 := ⟨_, rfl⟩
  have hg2 : W2.drew.heap[w.heap.size]? = some (.cells cur1 60 (0, 0)) := by rw [hW2]; exact setRow_heap W1 _ ROW _ _ _ hg1
  have hgr2 : w.grownBy W2 none := by
    rw [hW2]
    have a0 := grown_set W1 w.heap.size cur1
    exact ⟨a0.os.trans hgr1.os, a0.tape.trans hgr1.tape, a0.output.trans hgr1.output, Nat.le_trans hgr1.size a0.size, fun k hk hn => (a0.block k (Nat.lt_of_lt_of_le hk hgr1.size) (fun e => by cases e; omega)).trans (hgr1.block k hk hn)⟩
  rw [← hW2] at hcp1
  obtain ⟨tl, htl⟩ : ∃ tl, tl = xs.drop (i * 2) := ⟨_, rfl⟩
  have htll : tl.length = (cap - i) * 2 := by rw [htl, List.length_drop, hlen]; omega
  obtain ⟨cur2, hcur2⟩ : ∃ cur2, cur2 = (cur1.toList.take ((i + 1) * 2) ++ tl ++ cur1.toList.drop ((i + 1) * 2 + tl.length)).toArray := ⟨_, rfl⟩
  have hcp2 : ∀ ty, (Builtin.copy_ #[50, 50] ty #[.slice (some ⟨w.heap.size, (i + 1) * 2, none⟩) (cap - i) (G - (i + 1)), .slice (some ⟨g, i * 2, none⟩) (cap - i) (cap - i)]).run Try.prog W2.drew = .ok (goInt ((cap - i : Nat) : Int)) (W2.drew.setRow w.heap.size cur2) := fun ty => by
    have e : Nat.min (cap - i) (cap - i) = cap - i := Nat.min_self _
    have := copy_row (P := Try.prog) W2.drew 50 50 ty 60 2 w.heap.size ((i + 1) * 2) (cap - i) (G - (i + 1)) ⟨g, i * 2, none⟩ (cap - i) (cap - i) cur1 _ tl Try.underlying50 pair_size hg2 (by rw [htll, e])
      (fun j u hj => by
        have hjl : j < tl.length := (List.getElem?_eq_some_iff.1 hj).1
        rw [htl, List.getElem?_drop] at hj
        rw [Addr.add_lit]
        exact hgr2.cell ((hown.cellAt (i * 2 + j) (by omega)).trans hj) (by simp))
      (by rw [htll, hs1]; omega) (fun u hu => h1 u (List.mem_of_mem_drop (htl ▸ hu)))
    rw [e, ← hcur2] at this
    exact this
  have hs2 : cur2.size = G * 2 := by rw [hcur2]; simp only [List.size_toArray, List.length_append, List.length_take, List.length_drop, Array.length_toList, htll, hs1]; omega
  have ht2 : cur2.toList.take ((cap + 1) * 2) = xs.take (i * 2) ++ [.int .i64 pa, .int .i64 pb] ++ tl := by
    have e4 : (xs.take (i * 2) ++ [Value.int .i64 pa, .int .i64 pb] ++ tl).length = (cap + 1) * 2 := by simp only [List.length_append, List.length_take, hlen, htll, List.length_cons, List.length_nil]; omega
    rw [hcur2, ht1, ← e4, List.toList_toArray]
    exact List.take_left
  have hfin : (W2.drew.setRow w.heap.size cur2).ownsRow base 60 2 (.slice (some ⟨w.heap.size, 0, none⟩) (cap + 1) G) (cap + 1) (xs.take (i * 2) ++ [.int .i64 pa, .int .i64 pb] ++ tl) := owns_set hbase hg2 hGn hGm cur2 hs2 ht2 (by simp only [List.length_append, List.length_take, hlen, htll, List.length_cons, List.length_nil]; omega)
  have hgr : w.grownBy (W2.drew.setRow w.heap.size cur2) none := by
    have a0 := grown_set W2.drew w.heap.size cur2
    exact ⟨a0.os.trans hgr2.os, a0.tape.trans hgr2.tape, a0.output.trans hgr2.output, Nat.le_trans hgr2.size a0.size, fun k hk hn => (a0.block k (Nat.lt_of_lt_of_le hk hgr2.size) (fun e => by cases e; omega)).trans (hgr2.block k hk hn)⟩
  rw [← htl]
  have HF : Hid _ := And.intro hfin hgr
  have HC1 : Hid _ := hcp1
  have HC2 : Hid _ := hcp2
  have HR : Hid _ := hrz
  have hG63 : G ≤ 9223372036854775807 := by unfold maxLen at hGm; omega
  have hb1 : (0 : Int) ≤ (i : Int) + 1 := by omega
  have hin : i ≤ cap := by omega
  have htn : ((i : Int) + 1).toNat = i + 1 := by omega
  have hb2 : ¬ (G = i + 1) := by omega
  have hb3 : (i : Int) ≤ (cap : Int) + 1 := by omega
  have hb4 : ¬ (cap = i) := by omega
  have hb5 : (i : Int) + 1 ≤ (cap : Int) + 1 := by omega
  have hb6 : ¬ (G = i) := by omega
  have hz2 : ¬ ((i : Int) = (cap : Int)) := by omega
  have hz3 : (cap : Int) < (cap : Int) + 1 := by omega
  have hw1 : IntKind.i64.wrap ((i : Int) + 1) = (i : Int) + 1 := by rw [IntKind.wrap_i64]; omega
  have hb7 : (i : Int) ≤ (cap : Int) := by omega
  clear hfin hgr hcp2 ht2 hs2 hcur2 hcp1 hv1 hg1 hg2 hgr1 hgr2 hW1 hW2 hs1 ht1 hcur1 htll htl hlen htk hcs hcm hg hb hown h1 hvb hii hiz hisz hib hrz hRs hRt hROW hG hold hGm hkk hik hnc hroom
  go_enter Try.func32, Try.ntmps32
  have hcp1 := HC1.out
  go_wp2_with (at_builtin; refine Lib.wpList_append_run _ rfl _ _ _ _ rfl _ _ rfl rfl _ _ (HR.out _) ?_)

  go_region_law_o (refine step_copyR rfl _ _ 50 50 rfl _ _ (by simp [Act.eval, Act.put]) (by simp [Act.eval, Act.put]) HC2.out ?_)
  go_wp2
  go_ret
  exact ⟨_, rfl, HF.out⟩
end Go.Proofs.Ytbbmjfaflcbimaa
