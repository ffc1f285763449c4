/- A pool's clone. -/
import Derived.Test.YtoocenbmggfodaaPoolL
import Derived.Lib.BufferMore
namespace Go.Proofs.Ytoocenbmggfodaa
open Go.RowKit Go.Shelf
set_option linter.unusedVariables false

/-- The cells of places. -/
def cells3 : List Pl → List Value
  | [] => []
  | p :: r => .int .i64 p.age :: .bool p.has :: .int .i64 p.x :: cells3 r
theorem cells3_length : ∀ L : List Pl, (cells3 L).length = L.length * 3
  | [] => rfl
  | p :: r => by simp only [cells3, List.length_cons, cells3_length r]; omega
theorem cells3_at : ∀ (L : List Pl) (i : Nat), i < L.length → (cells3 L)[i * 3]? = some (.int .i64 (L[i]?.getD default).age) ∧ (cells3 L)[i * 3 + 1]? = some (.bool (L[i]?.getD default).has) ∧ (cells3 L)[i * 3 + 2]? = some (.int .i64 (L[i]?.getD default).x)
  | [], i, h => by simp at h
  | p :: r, 0, _ => ⟨rfl, rfl, rfl⟩
  | p :: r, i + 1, h => by
    have := cells3_at r i (by simpa using h)
    rw [show (i + 1) * 3 = i * 3 + 3 by omega]
    simpa [cells3] using this
theorem cells3_one (L : List Pl) : ∀ u ∈ cells3 L, u.oneCell' = true := by
  induction L with
  | nil => intro u hu; cases hu
  | cons p r ih =>
    intro u hu
    simp only [cells3, List.mem_cons] at hu
    rcases hu with rfl | rfl | rfl | hu
    · rfl
    · rfl
    · rfl
    · exact ih u hu
theorem IsPool.news {W : World} {pp pl : Nat} {L : List Pl} (h : IsPool W pp pl L) : ∀ j u, (cells3 L)[j]? = some u → W.cell? ((⟨pl, 0, none⟩ : Addr).add j) = some u := by
  intro j u hj
  have hl : j < L.length * 3 := by rw [← cells3_length]; exact (List.getElem?_eq_some_iff.1 hj).1
  have ad : (⟨pl, 0, none⟩ : Addr).add j = ⟨pl, j, none⟩ := by unfold Addr.add; split <;> simp_all
  rw [ad]
  obtain ⟨h0, h1, h2⟩ := cells3_at L (j / 3) (by omega)
  have : j % 3 = 0 ∨ j % 3 = 1 ∨ j % 3 = 2 := by omega
  rcases this with e | e | e
  · rw [show j = j / 3 * 3 by omega] at hj ⊢
    rw [h0] at hj
    rw [← hj]; exact h.age _ (by omega)
  · rw [show j = j / 3 * 3 + 1 by omega] at hj ⊢
    rw [h1] at hj
    rw [← hj]; exact h.has _ (by omega)
  · rw [show j = j / 3 * 3 + 2 by omega] at hj ⊢
    rw [h2] at hj
    rw [← hj]; exact h.x _ (by omega)

set_option maxRecDepth 100000 in
set_option maxHeartbeats 4000000 in
theorem sclone_any (pp pl cp : Nat) (L : List Pl) (w : World) (hp : IsPool w pp pl L) (hcp : L.length ≤ cp) (hcp' : cp ≤ 9223372036854775807) :
    Calls Try.prog 25 #[.slice (some ⟨pl, 0, none⟩) L.length cp] w fun e W => ∃ v, e = .returned v ∧ W.ownsRow w.heap.size 61 3 v L.length (cells3 L) ∧ Below w.heap.size w W := by
  obtain ⟨i0, hii, hiz, hisz, hib⟩ := info_parts place_info
  have HI : Hid _ := And.intro hii (And.intro hiz (And.intro hisz hib))
  clear hii hiz hisz hib
  have hr := hp.room
  have HP : Hid _ := hp
  clear hp
  have hnil : ∀ W, (binOp .eql 51 (.slice (some ⟨pl, 0, none⟩) L.length cp) (.slice none 0 0)).run Try.prog W = .ok (.bool false) W := fun W => Lib.run_eql_slice_some_nil W _ _ _ Try.underlying51
  go_enter Try.func25, Try.ntmps25
  have HW : Hid _ := HP.out.below (((Below.refl _ w).alloc (Nat.le_refl _) (.cells #[] 61)))
  have hcl : (cells3 L).length = L.length * 3 := cells3_length L
  have HCL : Hid _ := hcl
  clear hcl
  go_wp2_with (at_builtin; refine wpList_append_own _ rfl _ _ 51 rfl w.heap.size 61 i0 _ 3 24 Try.underlying51 HI.out.1 HI.out.2.1 HI.out.2.2.1 HI.out.2.2.2 rfl (by decide) _ 0 [] rfl (World.ownsRow_lit (e := 61) (size := 3) w #[] 0 (Nat.le_refl _) (by unfold maxLen; omega) rfl) ⟨pl, 0, none⟩ L.length cp (cells3 L) rfl HCL.out HW.out.news (cells3_one L) (by unfold maxLen; omega) (by omega) (by simp) ?_; intro u9 V2 r8 g8 _)
  go_ret
  rw [Nat.zero_add, List.nil_append] at r8
  exact ⟨_, rfl, r8, ((Below.refl _ w).alloc (Nat.le_refl _) _).grown g8 (by simp) (fun k e => by cases e; exact Nat.le_refl _)⟩

set_option maxHeartbeats 2000000 in
theorem clone_any (pp pl : Nat) (L : List Pl) (w : World) (hp : IsPool w pp pl L) (h0 : 0 < L.length) :
    Calls Try.prog 16 #[.pointer (some ⟨pp, 0, none⟩)] w fun e W => ∃ pp' pl', e = .returned (.pointer (some ⟨pp', 0, none⟩)) ∧ w.heap.size ≤ pp' ∧ w.heap.size ≤ pl' ∧ IsPool W pp' pl' L ∧ Below w.heap.size w W := by
  obtain ⟨cp, hc1, hc2, cs⟩ := hp.slice
  have HP : Hid _ := hp
  clear hp
  go_enter Try.func16, Try.ntmps16
  go_wp2_with (fail)
  refine Calls.mono (sclone_any pp pl cp L w HP.out hc1 hc2) ?_
  rintro e V ⟨v, rfl, hv, hb⟩
  have hv2 := hv.2
  have HV : Hid _ := hv
  have HB : Hid _ := hb
  clear hv hb
  rcases hv2 with ⟨_, e0⟩ | ⟨g, cap, cur, rfl, hg0, hg, h1, h2, h3, h4⟩
  · omega
  have HG : Hid _ := hg
  clear h4 hg
  go_wp2_with (fail)
  go_ret
  have hg := HG.out
  have hgl : g < V.heap.size := (Array.getElem?_eq_some_iff.1 hg).1
  have hown := World.ownsRow.alloc HV.out (.cells #[.slice (some ⟨g, 0, none⟩) L.length cap] 53)
  have hr := HP.out.room
  have at3 : ∀ j, j < L.length * 3 → _ := fun j hj => World.ownsRow.cellAt hown j hj
  refine ⟨_, g, rfl, HB.out.size, hg0, ⟨⟨cap, h1, by unfold maxLen at h2; omega, by simp [go_sem]⟩, by omega, by simp; omega, hr, ?_, ?_, ?_, ?_, HP.out.ok⟩, HB.out.alloc HB.out.size _⟩
  · intro i hi
    exact (at3 (i * 3) (by omega)).trans (cells3_at L i hi).1
  · intro i hi
    exact (at3 (i * 3 + 1) (by omega)).trans (cells3_at L i hi).2.1
  · intro i hi
    exact (at3 (i * 3 + 2) (by omega)).trans (cells3_at L i hi).2.2
  · intro o ho
    exact World.ownsRow.frozenAt hown o
end Go.Proofs.Ytoocenbmggfodaa
