/- slices.Delete and slices.Insert over rows of pairs. -/
import Derived.Test.YtbbmjfaflcbimaaPairA
namespace Go.Proofs.Ytbbmjfaflcbimaa
open Go.RowKit Go.Shelf
set_option linter.unusedVariables false

theorem pair_size : (Try.prog.info? 60).map (·.size) = some 2 := by kernel_rfl
theorem pair_zero : ∀ w, (zeroValue 60).run Try.prog w = .ok (.agg #[.int .i64 0, .int .i64 0]) w := fun w => by
  obtain ⟨i0, hi, hz, hs, hb⟩ := info_parts pair_info
  simp [zeroValue, typeInfo, hi, hz]

set_option maxHeartbeats 4000000 in
set_option maxRecDepth 100000 in
/-- slices.Delete of one. -/
theorem delete_any (base g m cap i : Nat) (xs : List Value) (w : World) (hown : w.ownsRow base 60 2 (.slice (some ⟨g, 0, none⟩) (m + 1) cap) (m + 1) xs) (h1 : ∀ u ∈ xs, u.oneCell' = true) (hi : i ≤ m) :
    Calls Try.prog 39 #[.slice (some ⟨g, 0, none⟩) (m + 1) cap, .int .i64 (i : Int), .int .i64 ((i : Int) + 1)] w fun e W =>
      e = .returned (.slice (some ⟨g, 0, none⟩) m cap) ∧ W.ownsRow base 60 2 (.slice (some ⟨g, 0, none⟩) m cap) m (xs.take (i * 2) ++ xs.drop ((i + 1) * 2)) ∧ w.grownBy W (some g) := by
  obtain ⟨cur, hb, hg, hnc, hcm, hcs, htk⟩ := owns_cur hown
  have hlen := hown.1
  obtain ⟨i0, hii, hiz, hisz, hib⟩ := info_parts pair_info
  have hcm' : cap ≤ 9223372036854775807 := by unfold maxLen at hcm; omega
  obtain ⟨news, hnews⟩ : ∃ news, news = xs.drop ((i + 1) * 2) := ⟨_, rfl⟩
  have hnl : news.length = (m - i) * 2 := by rw [hnews, List.length_drop, hlen]; omega
  have hn1 : ∀ u ∈ news, u.oneCell' = true := fun u hu => h1 u (List.mem_of_mem_drop (hnews ▸ hu))
  have hgd : w.drew.heap[g]? = some (.cells cur 60 (0, 0)) := hg
  obtain ⟨A, hA, hsrc⟩ : ∃ A : Addr, (if cap = i + 1 then some (⟨g, 0, none⟩ : Addr) else some ⟨g, (i + 1) * 2, none⟩) = some A ∧ ∀ t u, news[t]? = some u → w.drew.cell? (A.add t) = some u := by
    by_cases h : cap = i + 1
    · refine ⟨⟨g, 0, none⟩, by simp [h], fun t u hu => ?_⟩
      have h0 : news.length = 0 := by rw [hnl]; omega
      rw [List.length_eq_zero_iff.1 h0] at hu
      simp at hu
    · refine ⟨⟨g, (i + 1) * 2, none⟩, by simp [h], fun t u hu => ?_⟩
      have ht : t < news.length := (List.getElem?_eq_some_iff.1 hu).1
      rw [hnews, List.getElem?_drop] at hu
      rw [Addr.add_lit]
      exact (hown.cellAt ((i + 1) * 2 + t) (by omega)).trans hu
  obtain ⟨cur1, hcur1⟩ : ∃ cur1, cur1 = (cur.toList.take (i * 2) ++ news ++ cur.toList.drop (i * 2 + news.length)).toArray := ⟨_, rfl⟩
  have hap : ∀ ty, (Builtin.append_ #[50, 50] ty #[.slice (some ⟨g, 0, none⟩) i cap, .slice (some A) (m - i) (cap - (i + 1))]).run Try.prog w.drew = .ok (.slice (some ⟨g, 0, none⟩) m cap) (w.drew.setRow g cur1) := fun ty => by
    have := run_append_room (P := Try.prog) w.drew 50 ty 60 i0 Try.underlying50 hii g i cap cur hgd A (m - i) (cap - (i + 1)) news (by rw [hisz]; exact hnl) hsrc hn1 (by omega) (by rw [hisz, hnl, hcs]; omega)
    rw [hisz, ← hcur1, show i + (m - i) = m by omega] at this
    exact this
  have hs1 : cur1.size = cap * 2 := by rw [hcur1]; simp only [List.size_toArray, List.length_append, List.length_take, List.length_drop, Array.length_toList, hnl, hcs]; omega
  have ht1 : cur1.toList.take (m * 2) = xs.take (i * 2) ++ news := by
    have e1 : cur.toList.take (i * 2) = xs.take (i * 2) := by rw [← htk, List.take_take]; congr 1; omega
    have e2 : (xs.take (i * 2) ++ news).length = m * 2 := by rw [List.length_append, List.length_take, hlen, hnl]; omega
    rw [hcur1, e1, ← e2, List.toList_toArray]
    exact List.take_left
  obtain ⟨W1, hW1⟩ : ∃ W1, W1 = w.drew.setRow g cur1 := ⟨_, rfl⟩
  have hg1 : W1.heap[g]? = some (.cells cur1 60 (0, 0)) := by rw [hW1]; exact setRow_heap w.drew g cur _ _ _ hgd
  obtain ⟨cur2, hr2, hs2, ht2⟩ := clear_row (P := Try.prog) W1 50 60 0 _ 2 Try.underlying50 pair_zero rfl (by intro v hv; simp [Value.cells] at hv; subst hv; rfl) (by omega) g (m * 2) 1 (cap - m) cur1 _ hg1 (by rw [hs1]; omega)
  rw [← hW1] at hap
  have hfin : (W1.setRow g cur2).ownsRow base 60 2 (.slice (some ⟨g, 0, none⟩) m cap) m (xs.take (i * 2) ++ news) := owns_set hb hg1 (by omega) hcm cur2 (by rw [hs2]; exact hs1) (by rw [ht2]; exact ht1) (by rw [List.length_append, List.length_take, hlen, hnl]; omega)
  have hgr : w.grownBy (W1.setRow g cur2) (some g) := by
    have a0 := grown_set w.drew g cur1
    have a : w.grownBy W1 (some g) := by rw [hW1]; exact ⟨a0.os, a0.tape, a0.output, a0.size, a0.block⟩
    exact a.trans (grown_set W1 g cur2)
  rw [← hnews]
  have HF : Hid _ := And.intro hfin hgr
  have HAP : Hid _ := hap
  have HCL : Hid (∀ ty, (Builtin.clear_ #[50] ty #[.slice (some ⟨g, m * 2, none⟩) 1 (cap - m)]).run Try.prog W1 = .ok (.tuple #[]) (W1.setRow g cur2)) := fun ty => hr2
  have hic : i ≤ cap := by omega
  have hi2 : i + 1 ≤ cap := by omega
  have hi4 : ¬ (cap = m) := by omega
  have hi5 : ((i : Int) + 1).toNat = i + 1 := by omega
  have hi6 : (i : Int) + 1 ≤ (m : Int) + 1 := by omega
  have hi7 : (0 : Int) ≤ (i : Int) + 1 := by omega
  have mixed : Try.prog.follows Departure.mixedOrders = true := by kernel_rfl
  clear hfin hgr hap hr2 hs2 ht2 hg1 ht1 hs1 hcur1 hsrc hgd hn1 hnl hnews hown htk hcs hcm hg hb hlen h1 hW1
  go_enter Try.func39, Try.ntmps39
  go_wp2_with fail
  go_region_law_o (refine step_append_run rfl (.tmp 22) (.tmp 25) 50 50 rfl _ _ (by simp [Act.eval, Act.put]) (by simp [Act.eval, Act.put]) HAP.out ?_)
  have hcl := HCL.out
  go_wp2
  go_ret
  exact ⟨rfl, HF.out⟩
end Go.Proofs.Ytbbmjfaflcbimaa
