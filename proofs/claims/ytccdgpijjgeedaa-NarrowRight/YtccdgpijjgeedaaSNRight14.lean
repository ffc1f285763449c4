/- The document's own Place: what its walk keeps. -/
import Derived.Test.YtccdgpijjgeedaaSNRight12
import Derived.Test.YtccdgpijjgeedaaSNRight2
import Derived.Test.YtccdgpijjgeedaaSNRight9
import Derived.Test.YtccdgpijjgeedaaSNRight13
set_option linter.unusedVariables false
namespace Go.Proofs.Ytccdgpijjgeedaa
section
open Go.RowKit Go.Shelf
theorem rvadd_pt (b off : Nat) (f : Bool) (x y : Pt) (W : World) (hc : W.cell? ⟨b, off, none⟩ = some (.bool f)) (hf : W.frozen? ⟨b, off, none⟩ = false) :
  Calls Try.prog 65 #[.pointer (some ⟨b, off, none⟩), x.v, y.v] W fun e W' => e = .returned ((x.addO y).getD Pt.O).v /\ Hid (After ⟨b, off, none⟩ (f || (x.addO y).isNone) W W') := by
 refine Calls.mono (rvadd_law b off f x.x x.y x.z y.x y.y y.z W hc hf) ?_
 rintro e W' ⟨v0, v1, v2, g, rfl, S3, A⟩
 obtain ⟨e1, e2⟩ := step3_pt S3.out
 unfold Pt.addO
 rw [<- e1, <- e2]
 exact ⟨rfl, A⟩
theorem rvrows_m (b off : Nat) (f : Bool) (q : Q4) (W : World) (hc : W.cell? ⟨b, off, none⟩ = some (.bool f)) (hf : W.frozen? ⟨b, off, none⟩ = false) :
  Calls Try.prog 63 #[.pointer (some ⟨b, off, none⟩), .agg #[.int .i64 q.w, .int .i64 q.x, .int .i64 q.y, .int .i64 q.z]] W fun e W' => e = .returned (rowsM q).v /\ Hid (After ⟨b, off, none⟩ (f || rowsB q) W W') :=
 rvrows_law b off f q.w q.x q.y q.z W hc hf
theorem add_bound {x y z : Int} (h : Fx.add x y = some z) : -4611686018427387903 <= z /\ z <= 4611686018427387903 := by
 unfold Fx.add at h
 split at h
 ·cases h
 ·unfold Fx.told at h
  split at h
  ·cases h
  ·rename_i h9
   cases h
   exact (Fx.not_great _).1 (by simpa using h9)
def Pt.mid (p : Pt) : Prop := (-4611686018427387904 <= p.x /\ p.x <= 4611686018427387903) /\ (-4611686018427387904 <= p.y /\ p.y <= 4611686018427387903) /\ (-4611686018427387904 <= p.z /\ p.z <= 4611686018427387903)
theorem add_mid (x y : Pt) : ((x.addO y).getD Pt.O).mid := by
 unfold Pt.addO opt3
 split
 ·rename_i a b c h1 h2 h3
  have k1 := add_bound h1
  have k2 := add_bound h2
  have k3 := add_bound h3
  exact ⟨by show _ /\ _; simp; omega, by show _ /\ _; simp; omega, by show _ /\ _; simp; omega⟩
 ·exact ⟨by decide, by decide, by decide⟩
theorem rways_uni (wb : Nat) (f : Bool) (m : M9) (Ls : List Pt) (v : Value) (w : World) (hc : w.cell? ⟨wb, 0, none⟩ = some (.bool f)) (hf : w.frozen? ⟨wb, 0, none⟩ = false) (hv : Lies w v Ls) (hne : ∀ q n c, v = .slice (some q) n c -> Ls ≠ [] -> q.block ≠ wb) (hN : Ls.length < 1099511627776) :
  Calls Try.prog 69 #[.pointer (some ⟨wb, 0, none⟩), m.v, v] w fun e W => ∃ o c g M, e = .returned (.tuple #[.slice o M.length c, .bool (Ls.all (fun p => p.win 1048576))]) /\ Hid (WS w w.heap.size W wb g (.slice o M.length c) M) /\ Hid (Ls.all (fun p => p.win 1048576) = true -> g = (f || Ls.any m.dirB) /\ M = m.dirs Ls) := by
 refine Calls.mono (rways_any wb f m Ls v w hc hf hv hne hN) ?_
 rintro e W (⟨u, h1, rfl, h2⟩ | ⟨g, ⟨p, hp, hp2⟩, rfl, h2⟩)
 ·obtain ⟨o, c, rfl⟩ := rowp_form h2.own
  have e1 : Ls.all (fun p => p.win 1048576) = true := by rw [List.all_eq_true]; intro p hp; rw [win_in _ _ (by decide) (by decide)]; exact h1 p hp
  exact ⟨o, c, _, _, by rw [e1], h2, fun _ => ⟨rfl, rfl⟩⟩
 ·have e1 : Ls.all (fun p => p.win 1048576) = false := by rw [List.all_eq_false]; exact ⟨p, hp, by rw [win_in _ _ (by decide) (by decide), hp2]; simp⟩
  exact ⟨none, 0, g, [], by rw [e1]; rfl, h2, fun h => by rw [e1] at h; cases h⟩
structure KP (w0 X : World) (n0 : Nat) (bs : List (Nat × List Value)) (b : Nat) (cs : List Value) (wb : Nat) (g : Bool) (u : Value) (M : List Pt) : Prop where
 kb : KB w0 X n0 bs b cs
 ne : ∀ p ∈ bs, p.1 ≠ wb
 nb : b ≠ wb
 wl : w0.heap.size <= wb /\ wb < n0
 fl : X.cell? ⟨wb, 0, none⟩ = some (.bool g)
 ff : X.frozen? ⟨wb, 0, none⟩ = false
 own : X.ownsRow n0 26 3 u M.length (fl3 M)
section
variable {w0 X Y : World} {n0 b wb : Nat} {bs : List (Nat × List Value)} {cs : List Value} {g g' : Bool} {u : Value} {M : List Pt}
theorem KP.step (h : KP w0 X n0 bs b cs wb g u M) (hb : Below X.heap.size X Y) : KP w0 Y n0 bs b cs wb g u M :=
 ⟨h.kb.step hb, h.ne, h.nb, h.wl, c_after hb h.fl, f_after hb h.fl h.ff, own_below h.own hb⟩
theorem KP.after (h : KP w0 X n0 bs b cs wb g u M) (A : After ⟨wb, 0, none⟩ g' X Y) : KP w0 Y n0 bs b cs wb g' u M := by
 refine ⟨⟨A.on h.kb.below h.wl.1, fun p hp => ⟨(h.kb.fix p hp).1, (h.kb.fix p hp).2.1, (h.kb.fix p hp).2.2.beside A (h.ne p hp)⟩, h.kb.box.beside A h.nb, h.kb.lt, h.kb.ge, h.kb.hn, Nat.le_trans h.kb.hx A.size⟩, h.ne, h.nb, h.wl, A.cell, A.frozen, row_turn h.own (after_grown A) (fun r e => by cases e; exact h.wl.2)⟩
theorem KP.set3 (h : KP w0 X n0 bs b cs wb g u M) {c : Nat} (hc : n0 <= c) (hu : u.ownBlock ≠ some c) (x y z : Int) : KP w0 (set3 X c x y z) n0 bs b cs wb g u M := by
 have hne : wb ≠ c := by have := h.wl.2; omega
 have hk : (Go.Proofs.Ytccdgpijjgeedaa.set3 X c x y z).heap[wb]? = X.heap[wb]? := by
  unfold Go.Proofs.Ytccdgpijjgeedaa.set3
  rw [Below.heap_setCell _ _ _ _ hne, Below.heap_setCell _ _ _ _ hne, Below.heap_setCell _ _ _ _ hne]
 have hn := h.kb.hn
 refine ⟨⟨set3_below h.kb.below (by omega) _ _ _, fun p hp => ⟨(h.kb.fix p hp).1, (h.kb.fix p hp).2.1, (h.kb.fix p hp).2.2.put3w (by have := (h.kb.fix p hp).1; omega) _ _ _⟩, h.kb.box.put3w (by have := h.kb.lt; omega) _ _ _, h.kb.lt, h.kb.ge, h.kb.hn, ?_⟩, h.ne, h.nb, h.wl, (World.cell?_of_block (w := X) (a := ⟨wb, 0, none⟩) hk).trans h.fl, (World.frozen?_of_block (w := X) (a := ⟨wb, 0, none⟩) hk).trans h.ff, ownsRow_setCell_other (ownsRow_setCell_other (ownsRow_setCell_other h.own hu _) hu _) hu _⟩
 have := h.kb.hx
 simpa [Go.Proofs.Ytccdgpijjgeedaa.set3, World.setCell] using this
theorem KP.put (h : KP w0 X n0 bs b cs wb g u M) (k : Nat) (v : Value) (hk : k < cs.length) : KP w0 (X.setCell ⟨b, k, none⟩ v) n0 bs b (cs.set k v) wb g u M := by
 have hk9 : (X.setCell ⟨b, k, none⟩ v).heap[wb]? = X.heap[wb]? := Below.heap_setCell _ _ _ _ (Ne.symm h.nb)
 exact ⟨h.kb.put k v hk, h.ne, h.nb, h.wl, (World.cell?_of_block (w := X) (a := ⟨wb, 0, none⟩) hk9).trans h.fl, (World.frozen?_of_block (w := X) (a := ⟨wb, 0, none⟩) hk9).trans h.ff, ownsRow_setCell_other h.own (fun e => by have h5 : n0 <= b := (World.ownsRow.lt h.own _ e).1; have := h.kb.lt; omega) _⟩
theorem KP.app {u' : Value} {p : Pt} (h : KP w0 X n0 bs b cs wb g u M) (hr : Y.ownsRow n0 26 3 u' (M.length + 1) (fl3 M ++ [.int .i64 p.x, .int .i64 p.y, .int .i64 p.z])) (hg : X.grownBy Y u.ownBlock) : KP w0 Y n0 bs b cs wb g u' (M ++ [p]) := by
 have hur : ∀ r, u.ownBlock = some r -> n0 <= r := fun r e => (World.ownsRow.lt h.own _ e).1
 have hbl : Y.heap[wb]? = X.heap[wb]? := hg.block wb (World.block_lt_of_cell? _ _ h.fl) (fun e => by have := hur wb e.symm; have := h.wl.2; omega)
 refine ⟨h.kb.grew hg hur, h.ne, h.nb, h.wl, (World.cell?_of_block (w := X) (a := ⟨wb, 0, none⟩) hbl).trans h.fl, (World.frozen?_of_block (w := X) (a := ⟨wb, 0, none⟩) hbl).trans h.ff, ?_⟩
 rw [fl3_append, List.length_append]; exact hr
theorem KP.lies (h : KP w0 X n0 bs b cs wb g u M) {v : Value} {L : List Pt} (hl : Lies w0 v L) : Lies X v L /\ ∀ q n c, v = .slice (some q) n c -> L ≠ [] -> q.block ≠ wb := by
 refine ⟨hl.below h.kb.below, fun q n c e hne => ?_⟩
 obtain ⟨o, cap, e2, _, _, hc⟩ := hl.form
 rw [e2] at e
 simp only [Value.slice.injEq] at e
 obtain ⟨rfl, rfl, rfl⟩ := e
 obtain ⟨g7, f7, e7, x0, _⟩ := hc 0 (List.length_pos_iff.2 hne)
 cases e7
 have h1 : g7 < w0.heap.size := World.block_lt_of_cell? _ _ x0
 have h2 := h.wl.1
 show g7 ≠ wb
 omega
end
end
end Go.Proofs.Ytccdgpijjgeedaa
