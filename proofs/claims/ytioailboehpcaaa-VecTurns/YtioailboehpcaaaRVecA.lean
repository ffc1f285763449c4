/- The reference's vectors (tumblerref02): its own work, and what gets out. -/
import Derived.Test.YtioailboehpcaaaRef7
import Derived.Test.YtioailboehpcaaaVec2
namespace Go.Proofs.Ytioailboehpcaaa
open Go.RowKit Ref Fx
set_option linter.unusedVariables false

theorem bare_any (W : World) : Calls Try.prog 35 #[] W fun e W' => e = .returned (.pointer (some ⟨W.heap.size, 0, none⟩)) ∧ W' = W.alloc (.cells #[.bool false] 29) := by
  go_enter Try.func35, Try.ntmps35
  go_wp2
  go_ret
  exact ⟨rfl, rfl⟩
set_option maxHeartbeats 1000000 in
theorem done_any (b off o : Nat) (f g : Bool) (W : World) (hc : W.cell? ⟨b, off, none⟩ = some (.bool f)) (hf : W.frozen? ⟨b, off, none⟩ = false) (ho : W.cell? ⟨o, 0, none⟩ = some (.bool g)) (hne : o ≠ b) :
    Calls Try.prog 37 #[.pointer (some ⟨b, off, none⟩), .pointer (some ⟨o, 0, none⟩)] W fun e W' => e = .returned (.bool (!g)) ∧ Hid (After ⟨b, off, none⟩ (f || g) W W') := by
  have n1 : b ≠ o := Ne.symm hne
  have fin : ∀ x : Bool, After ⟨b, off, none⟩ x W (W.setCell ⟨b, off, none⟩ (.bool x)) := fun x => ((Leaves.refl ⟨b, off, none⟩ W).own _).done (by simp [go_sem, hc]) (by simp [go_sem, hf])
  have HF : Hid _ := fin
  clear fin
  cases f
  · go_enter Try.func37, Try.ntmps37
    go_wp2
    go_ret
    exact ⟨rfl, HF.out _⟩
  · go_enter Try.func37, Try.ntmps37
    go_wp2
    go_ret
    exact ⟨rfl, HF.out _⟩

/-- What holds while a call reckons by a work of its own: the flag at p as it was, the own one g, the cells of l. -/
structure Ho (W V : World) (p : Addr) (po : Nat) (f g : Bool) (l : List (Addr × Value)) : Prop where
  leaves : Leaves p W V
  flag : V.cell? p = some (.bool f)
  flagf : V.frozen? p = false
  own : V.cell? ⟨po, 0, none⟩ = some (.bool g)
  ownf : V.frozen? ⟨po, 0, none⟩ = false
  fix : ∀ c ∈ l, V.cell? c.1 = some c.2 ∧ V.frozen? c.1 = false
  far : ∀ c ∈ l, c.1.block ≠ po
  hp : p.block < W.heap.size
  ho : W.heap.size ≤ po
theorem Ho.after {W V V' : World} {p : Addr} {po : Nat} {f g g' : Bool} {l : List (Addr × Value)} (h : Ho W V p po f g l) (A : After ⟨po, 0, none⟩ g' V V') : Ho W V' p po f g' l :=
  ⟨h.leaves.after A h.ho, A.cellOf h.flag (by have := h.hp; have := h.ho; show p.block ≠ po; omega), A.frozenOf h.flag h.flagf (by have := h.hp; have := h.ho; show p.block ≠ po; omega), A.cell, A.frozen, fun c hc => ⟨A.cellOf (h.fix c hc).1 (h.far c hc), A.frozenOf (h.fix c hc).1 (h.fix c hc).2 (h.far c hc)⟩, h.far, h.hp, h.ho⟩
theorem Ho.alloc {W V : World} {p : Addr} {po : Nat} {f g : Bool} {l : List (Addr × Value)} (h : Ho W V p po f g l) (o : Obj) : Ho W (V.alloc o) p po f g l := by
  have hb := new_after V o
  exact ⟨h.leaves.alloc o, cell_after hb h.flag, frozen_after hb h.flag h.flagf, cell_after hb h.own, frozen_after hb h.own h.ownf, fun c hc => ⟨cell_after hb (h.fix c hc).1, frozen_after hb (h.fix c hc).1 (h.fix c hc).2⟩, h.far, h.hp, h.ho⟩
theorem Ho.drew {W V : World} {p : Addr} {po : Nat} {f g : Bool} {l : List (Addr × Value)} (h : Ho W V p po f g l) : Ho W V.drew p po f g l := ⟨h.leaves.drew, h.flag, h.flagf, h.own, h.ownf, h.fix, h.far, h.hp, h.ho⟩
/-- Three that are told one behind the other. -/
theorem step3_chain {f g1 g2 g3 : Bool} {a b c : Option Int} {x y z : Int} (h1 : Step false a x g1) (h2 : Step g1 b y g2) (h3 : Step g2 c z g3) : Step3 f a b c (cond g3 0 x) (cond g3 0 y) (cond g3 0 z) (f || g3) := by
  obtain ⟨rfl, rfl⟩ := h1
  obtain ⟨rfl, rfl⟩ := h2
  obtain ⟨rfl, rfl⟩ := h3
  simp only [Bool.false_or]
  exact ⟨rfl, rfl, rfl, rfl⟩
end Go.Proofs.Ytioailboehpcaaa
