/- Package pose: a core that is moved. -/
import Derived.Test.YtfalniafkambmaaBNS0
import Derived.Test.YtfalniafkambmaaProg
import Derived.WalkKit
import Derived.Orders
import Derived.Below
import Derived.Laws.Rows
import Derived.Test.YtfalniafkambmaaBNS2
import Derived.Test.YtfalniafkambmaaENMirr0
import Derived.Test.YtfalniafkambmaaBNS1
import Derived.RangeFuncBox
import Derived.Shelf.Abstract
import Derived.OwnWalkIn
import Derived.TacticsInMore
import Derived.LoopNIn
import Derived.LoopIn
import Derived.LoopTactic
import Derived.ProofKit
import Derived.Handy
import Derived.Laws.MakeOwn
import Derived.Laws.OwnMore
import Derived.Maps.AppendAt
import Derived.Deep.RegionWith
import Derived.Deep.QuietTactic
import Derived.BigQuiet
import Derived.Deep.CutBlock
import Derived.Deep.CutRange
import Derived.Deep.LoopGhost
import Derived.Lib.SmallJoins
import Derived.RowKit
import Derived.Test.YtfalniafkambmaaBNS17
import Derived.Test.YtfalniafkambmaaBNS24
import Derived.OpenShut
import Derived.Test.YtfalniafkambmaaBNS25
import Derived.Test.YtfalniafkambmaaBNS18
import Derived.Test.YtfalniafkambmaaBNS11
import Derived.Test.YtfalniafkambmaaBNS7
import Derived.Test.YtfalniafkambmaaBNS3
import Derived.Laws.MathBits
import Derived.Laws.Externs
import Derived.Laws.BitsAllLaws
import Derived.WalkLawsBesides
import Derived.Deep.MidRow
import Derived.Test.YtfalniafkambmaaBNS6
import Derived.Test.YtfalniafkambmaaBNS5
import Derived.Test.YtfalniafkambmaaBNS4
import Derived.OneCell
import Derived.WalkMore
import Derived.Lib.BufferMore
import Derived.Test.YtfalniafkambmaaBNS10
import Derived.Test.YtfalniafkambmaaBNS9
import Derived.Test.YtfalniafkambmaaBNS8
import Derived.Deep.RegionHeld3
import Derived.Test.YtfalniafkambmaaBNS13
import Derived.Test.YtfalniafkambmaaBNS12
import Derived.Test.YtfalniafkambmaaBNS16
import Derived.Test.YtfalniafkambmaaBNS15
import Derived.Test.YtfalniafkambmaaBNS14
import Derived.Test.YtfalniafkambmaaBNS22
import Derived.Test.YtfalniafkambmaaBNS21
import Derived.Test.YtfalniafkambmaaBNS20
import Derived.Test.YtfalniafkambmaaBNS19
import Derived.RangeFuncNested
import Derived.RangeFuncBound
import Derived.RangeFuncCalls
import Derived.RangeFuncLeaves
import Derived.Scope
import Derived.OrdersIn
import Derived.Sort.CutIn
namespace Go.Proofs.Ytfalniafkambmaa
open Go.RowKit Go.Shelf
set_option linter.unusedVariables false

set_option maxHeartbeats 1000000 in
theorem same_any (p : Pt) (w : World) : Calls Try.prog 27 #[p.v] w fun e W => e = .returned p.v ∧ Below w.heap.size w W := by
  obtain ⟨x, y, z⟩ := p
  unfold Pt.v
  dsimp only
  go_enter Try.func27, Try.ntmps27
  go_wp2
  exact bodyPost_ret (v := .agg #[.int .i64 x, .int .i64 y, .int .i64 z]) (by simp [results, Try.results27, go_sem]) rfl ⟨rfl, b_step (n_after _ _) (n_after _ _)⟩
set_option maxHeartbeats 1000000 in
theorem move1_any (p q : Pt) (mb : Nat) (w : World) (hc : Cells w mb [.int .i64 q.x, .int .i64 q.y, .int .i64 q.z]) : Calls Try.prog 23 #[p.v, .pointer (some ⟨mb, 0, none⟩)] w fun e W => e = .returned (p.plus q).v ∧ Below w.heap.size w W := by
  have HP : Hid _ := fun w' => pplus_any p q w'
  generalize p.plus q = r at *
  obtain ⟨x, y, z⟩ := p
  obtain ⟨x1, y1, z1⟩ := q
  obtain ⟨x2, y2, z2⟩ := r
  unfold Pt.v at *
  dsimp only at *
  have b9 := b_step (n_after w (.cells #[.int .i64 x, .int .i64 y, .int .i64 z] 23)) (n_after _ (.cells #[.int .i64 0, .int .i64 0, .int .i64 0] 23))
  have hl : mb < w.heap.size := Cells.lt hc
  have c0 := (Cells.step hc b9 0 _ rfl).1
  have c1 := (Cells.step hc b9 1 _ rfl).1
  have c2 := (Cells.step hc b9 2 _ rfl).1
  have BO : Hid (Box3 ((w.alloc (.cells #[.int .i64 x, .int .i64 y, .int .i64 z] 23)).alloc (.cells #[.int .i64 0, .int .i64 0, .int .i64 0] 23)) (w.heap.size + 1) Pt.O) := by show Box3 _ _ _; have := Box3.new (w.alloc (.cells #[.int .i64 x, .int .i64 y, .int .i64 z] 23)) 0 0 0 23; rwa [World.size_alloc] at this
  have hB : Hid _ := b9
  clear hc b9
  go_enter Try.func23, Try.ntmps23
  go_wp2_with (fail)
  refine Calls.mono (HP.out _) ?_
  rintro e V ⟨rfl, hb⟩
  obtain ⟨d0, d1, d2, f0, f1, f2⟩ := BO.out.step hb
  simp only [Pt.O] at d0 d1 d2
  have hE : Hid _ := b_step hB.out hb
  clear c0 c1 c2 hb HP
  go_wp2_with (fail)
  exact bodyPost_ret (v := .agg #[.int .i64 x2, .int .i64 y2, .int .i64 z2]) (by simp [results, Try.results23, go_sem, d0, d1, d2]) rfl ⟨rfl, set3_below hE.out (by omega) x2 y2 z2⟩
set_option maxHeartbeats 1000000 in
/-- A list's points, each as a function that touches nothing has it. -/
theorem gather_plain (gf b : Nat) (cs : Array Value) (f : Pt → Pt) (P : List Pt) (o : Option Addr) (cap : Nat) (w : World) (St : World → Prop) (hst : St w) (hSt : ∀ A B r2, St A → A.grownBy B r2 → (∀ r, r2 = some r → w.heap.size ≤ r) → St B) (hSk : ∀ A B, St A → KeepO (fun x => x < w.heap.size) A B → St B) (hv : Lies w (.slice o P.length cap) P)
    (eg : ∀ args w, (callFunc gf args).run Try.prog w = .ok (.enter gf args) w) (hf : ∀ (p : Pt) V, St V → Calls Try.prog gf (#[].push p.v ++ cs) V fun e V' => e = .returned (f p).v ∧ Below V.heap.size V V')
    (cp : w.cell? ⟨b, 0, none⟩ = some (.slice o P.length cap)) (cf : w.cell? ⟨b + 1, 0, none⟩ = some (.func (.func gf) #[] cs)) (hN : P.length < 1099511627776) :
    Calls Try.prog 25 #[.func (.func 55) #[] #[.pointer (some ⟨b, 0, none⟩), .pointer (some ⟨b + 1, 0, none⟩)]] w fun e W => ∃ u, e = .returned u ∧ W.ownsRow w.heap.size 23 3 u (P.map f).length (fl3 (P.map f)) ∧ Below w.heap.size w W := by
  refine Calls.mono (gathered_any 55 #[.pointer (some ⟨b, 0, none⟩), .pointer (some ⟨b + 1, 0, none⟩)] (fun k => f (pt P k)) none (fun x => x < w.heap.size) (fun _ X => St X) P.length w (enters_of Try.func55 (by kernel_rfl) rfl)
    (fun W hb => each_tells_pt 8 b (b + 1) P o cap gf #[] cs (fun k => (f (pt P k)).v) none (fun x => x < w.heap.size) (fun _ X => St X) W
      eg (hv.below hb) (c_after hb cp) (c_after hb cf) (fun q e h0 => ?_) ⟨World.block_lt_of_cell? _ _ cf, by simp⟩ (fun x hx => Nat.lt_of_lt_of_le hx hb.size)
      (fun X hX => hSt _ _ none (hSt _ _ none hst (below_grown hb none) (fun r e => by cases e)) (below_grown hX none) (fun r e => by cases e)) (fun k X Y hs hk => hSk _ _ hs hk)
      (fun k X hk hs => (hf (pt P k) X hs).mono fun e X' h => ⟨h.1, below_grown h.2 none, hSt _ _ none hs (below_grown h.2 none) (fun r e => by cases e)⟩))
    (fun x hx => hx) (fun r e => by cases e) (fun k X Y r2 hs hg hr => hSt _ _ _ hs hg hr) hN) ?_
  · subst e
    exact ⟨hv.lt h0, by simp⟩
  · rintro e W ⟨u, rfl, h3, h4, h5⟩
    rw [firsts_map] at h3
    exact ⟨u, rfl, by rw [List.length_map]; exact h3, ⟨h4.os, h4.tape, h4.output, h4.size, fun k hk => h4.block k hk (by simp)⟩⟩

/-- While a core is moved. -/
structure MG (w0 V : World) (cb mb ob : Nat) (pv av ev : Value) (r : Int) (q : Pt) (P A E : List Pt) (g3 g4 g7 g8 g11 g12 g15 : Value) (l3 l4 l7 l8 l11 l12 l15 l16 : Bool) (w : World) : Prop where
  be : Below w0.heap.size w0 w
  sz : V.heap.size ≤ w.heap.size
  cr : Cells w cb [pv, av, ev, .int .i64 r]
  mr : Cells w mb [.int .i64 q.x, .int .i64 q.y, .int .i64 q.z]
  co : Cells w ob (cond l16 [g4, g8, g12, .int .i64 r] [.slice none 0 0, .slice none 0 0, .slice none 0 0, .int .i64 0])
  x3 : l3 = true → ∃ b, g3 = .func (.func 55) #[] #[.pointer (some ⟨b, 0, none⟩), .pointer (some ⟨b + 1, 0, none⟩)] ∧ V.heap.size ≤ b ∧ w.cell? ⟨b, 0, none⟩ = some pv ∧ w.cell? ⟨b + 1, 0, none⟩ = some (.func (.func 23) #[] #[.pointer (some ⟨mb, 0, none⟩)])
  x7 : l7 = true → ∃ b, g7 = .func (.func 55) #[] #[.pointer (some ⟨b, 0, none⟩), .pointer (some ⟨b + 1, 0, none⟩)] ∧ V.heap.size ≤ b ∧ w.cell? ⟨b, 0, none⟩ = some av ∧ w.cell? ⟨b + 1, 0, none⟩ = some (.func (.func 27) #[] #[])
  x11 : l11 = true → ∃ b, g11 = .func (.func 55) #[] #[.pointer (some ⟨b, 0, none⟩), .pointer (some ⟨b + 1, 0, none⟩)] ∧ V.heap.size ≤ b ∧ w.cell? ⟨b, 0, none⟩ = some ev ∧ w.cell? ⟨b + 1, 0, none⟩ = some (.func (.func 27) #[] #[])
  o4 : l4 = true → w.ownsRow V.heap.size 23 3 g4 P.length (fl3 P)
  o8 : l8 = true → w.ownsRow V.heap.size 23 3 g8 A.length (fl3 A)
  o12 : l12 = true → w.ownsRow V.heap.size 23 3 g12 E.length (fl3 E)
  s48 : l4 = true → l8 = true → ∀ k, g4.ownBlock = some k → g8.ownBlock ≠ some k
  s42 : l4 = true → l12 = true → ∀ k, g4.ownBlock = some k → g12.ownBlock ≠ some k
  s82 : l8 = true → l12 = true → ∀ k, g8.ownBlock = some k → g12.ownBlock ≠ some k
  bd : l15 = true → g15 = .agg #[g4, g8, g12, .int .i64 r]
section
variable {w0 V : World} {cb mb ob : Nat} {pv av ev : Value} {r : Int} {q : Pt} {P A E : List Pt} {g3 g4 g7 g8 g11 g12 g15 : Value} {l3 l4 l7 l8 l11 l12 l15 l16 : Bool} {w w' : World}
theorem MG.step (h : MG w0 V cb mb ob pv av ev r q P A E g3 g4 g7 g8 g11 g12 g15 l3 l4 l7 l8 l11 l12 l15 l16 w) (hb : Below w.heap.size w w') : MG w0 V cb mb ob pv av ev r q P A E g3 g4 g7 g8 g11 g12 g15 l3 l4 l7 l8 l11 l12 l15 l16 w' := by
  refine ⟨b_step h.be hb, Nat.le_trans h.sz hb.size, h.cr.step hb, h.mr.step hb, h.co.step hb, fun e => ?_, fun e => ?_, fun e => ?_, fun e => own_below (h.o4 e) hb, fun e => own_below (h.o8 e) hb, fun e => own_below (h.o12 e) hb, h.s48, h.s42, h.s82, h.bd⟩
  · obtain ⟨b, h1, h2, h3, h4⟩ := h.x3 e; exact ⟨b, h1, h2, c_after hb h3, c_after hb h4⟩
  · obtain ⟨b, h1, h2, h3, h4⟩ := h.x7 e; exact ⟨b, h1, h2, c_after hb h3, c_after hb h4⟩
  · obtain ⟨b, h1, h2, h3, h4⟩ := h.x11 e; exact ⟨b, h1, h2, c_after hb h3, c_after hb h4⟩
theorem MG.each3 (h : MG w0 V cb mb ob pv av ev r q P A E g3 g4 g7 g8 g11 g12 g15 l3 l4 l7 l8 l11 l12 l15 l16 w) (hb : Below w.heap.size w w') {b : Nat} (hV : V.heap.size ≤ b) (h1 : w'.cell? ⟨b, 0, none⟩ = some pv) (h2 : w'.cell? ⟨b + 1, 0, none⟩ = some (.func (.func 23) #[] #[.pointer (some ⟨mb, 0, none⟩)])) :
    MG w0 V cb mb ob pv av ev r q P A E (.func (.func 55) #[] #[.pointer (some ⟨b, 0, none⟩), .pointer (some ⟨b + 1, 0, none⟩)]) g4 g7 g8 g11 g12 g15 true l4 l7 l8 l11 l12 l15 l16 w' := by
  have h9 := h.step hb
  exact ⟨h9.be, h9.sz, h9.cr, h9.mr, h9.co, fun _ => ⟨b, rfl, hV, h1, h2⟩, h9.x7, h9.x11, h9.o4, h9.o8, h9.o12, h9.s48, h9.s42, h9.s82, h9.bd⟩
theorem MG.each7 (h : MG w0 V cb mb ob pv av ev r q P A E g3 g4 g7 g8 g11 g12 g15 l3 l4 l7 l8 l11 l12 l15 l16 w) (hb : Below w.heap.size w w') {b : Nat} (hV : V.heap.size ≤ b) (h1 : w'.cell? ⟨b, 0, none⟩ = some av) (h2 : w'.cell? ⟨b + 1, 0, none⟩ = some (.func (.func 27) #[] #[])) :
    MG w0 V cb mb ob pv av ev r q P A E g3 g4 (.func (.func 55) #[] #[.pointer (some ⟨b, 0, none⟩), .pointer (some ⟨b + 1, 0, none⟩)]) g8 g11 g12 g15 l3 l4 true l8 l11 l12 l15 l16 w' := by
  have h9 := h.step hb
  exact ⟨h9.be, h9.sz, h9.cr, h9.mr, h9.co, h9.x3, fun _ => ⟨b, rfl, hV, h1, h2⟩, h9.x11, h9.o4, h9.o8, h9.o12, h9.s48, h9.s42, h9.s82, h9.bd⟩
theorem MG.each11 (h : MG w0 V cb mb ob pv av ev r q P A E g3 g4 g7 g8 g11 g12 g15 l3 l4 l7 l8 l11 l12 l15 l16 w) (hb : Below w.heap.size w w') {b : Nat} (hV : V.heap.size ≤ b) (h1 : w'.cell? ⟨b, 0, none⟩ = some ev) (h2 : w'.cell? ⟨b + 1, 0, none⟩ = some (.func (.func 27) #[] #[])) :
    MG w0 V cb mb ob pv av ev r q P A E g3 g4 g7 g8 (.func (.func 55) #[] #[.pointer (some ⟨b, 0, none⟩), .pointer (some ⟨b + 1, 0, none⟩)]) g12 g15 l3 l4 l7 l8 true l12 l15 l16 w' := by
  have h9 := h.step hb
  exact ⟨h9.be, h9.sz, h9.cr, h9.mr, h9.co, h9.x3, h9.x7, fun _ => ⟨b, rfl, hV, h1, h2⟩, h9.o4, h9.o8, h9.o12, h9.s48, h9.s42, h9.s82, h9.bd⟩
theorem MG.got4 (h : MG w0 V cb mb ob pv av ev r q P A E g3 g4 g7 g8 g11 g12 g15 l3 l4 l7 l8 l11 l12 l15 l16 w) (hb : Below w.heap.size w w') {u : Value} (hu : w'.ownsRow w.heap.size 23 3 u P.length (fl3 P)) (h15 : l15 = false) (h16 : l16 = false) :
    MG w0 V cb mb ob pv av ev r q P A E g3 u g7 g8 g11 g12 g15 l3 true l7 l8 l11 l12 l15 l16 w' := by
  have h9 := h.step hb
  refine ⟨h9.be, h9.sz, h9.cr, h9.mr, by have := h9.co; rw [h16] at this ⊢; exact this, h9.x3, h9.x7, h9.x11, fun _ => own_le hu h.sz, h9.o8, h9.o12, fun _ e k e1 e2 => apart_new (b' := 0) (h.o8 e) hu k e2 e1, fun _ e k e1 e2 => apart_new (b' := 0) (h.o12 e) hu k e2 e1, h9.s82, fun e => (by rw [h15] at e; cases e)⟩
theorem MG.got8 (h : MG w0 V cb mb ob pv av ev r q P A E g3 g4 g7 g8 g11 g12 g15 l3 l4 l7 l8 l11 l12 l15 l16 w) (hb : Below w.heap.size w w') {u : Value} (hu : w'.ownsRow w.heap.size 23 3 u A.length (fl3 A)) (h15 : l15 = false) (h16 : l16 = false) :
    MG w0 V cb mb ob pv av ev r q P A E g3 g4 g7 u g11 g12 g15 l3 l4 l7 true l11 l12 l15 l16 w' := by
  have h9 := h.step hb
  refine ⟨h9.be, h9.sz, h9.cr, h9.mr, by have := h9.co; rw [h16] at this ⊢; exact this, h9.x3, h9.x7, h9.x11, h9.o4, fun _ => own_le hu h.sz, h9.o12, fun e _ k e1 e2 => apart_new (b' := 0) (h.o4 e) hu k e1 e2, h9.s42, fun _ e k e1 e2 => apart_new (b' := 0) (h.o12 e) hu k e2 e1, fun e => (by rw [h15] at e; cases e)⟩
theorem MG.got12 (h : MG w0 V cb mb ob pv av ev r q P A E g3 g4 g7 g8 g11 g12 g15 l3 l4 l7 l8 l11 l12 l15 l16 w) (hb : Below w.heap.size w w') {u : Value} (hu : w'.ownsRow w.heap.size 23 3 u E.length (fl3 E)) (h15 : l15 = false) (h16 : l16 = false) :
    MG w0 V cb mb ob pv av ev r q P A E g3 g4 g7 g8 g11 u g15 l3 l4 l7 l8 l11 true l15 l16 w' := by
  have h9 := h.step hb
  refine ⟨h9.be, h9.sz, h9.cr, h9.mr, by have := h9.co; rw [h16] at this ⊢; exact this, h9.x3, h9.x7, h9.x11, h9.o4, h9.o8, fun _ => own_le hu h.sz, h9.s48, fun e _ k e1 e2 => apart_new (b' := 0) (h.o4 e) hu k e1 e2, fun e _ k e1 e2 => apart_new (b' := 0) (h.o8 e) hu k e1 e2, fun e => (by rw [h15] at e; cases e)⟩
theorem MG.built (h : MG w0 V cb mb ob pv av ev r q P A E g3 g4 g7 g8 g11 g12 g15 l3 l4 l7 l8 l11 l12 l15 l16 w) : MG w0 V cb mb ob pv av ev r q P A E g3 g4 g7 g8 g11 g12 (.agg #[g4, g8, g12, .int .i64 r]) l3 l4 l7 l8 l11 l12 true l16 w :=
  ⟨h.be, h.sz, h.cr, h.mr, h.co, h.x3, h.x7, h.x11, h.o4, h.o8, h.o12, h.s48, h.s42, h.s82, fun _ => rfl⟩
theorem MG.fill (h : MG w0 V cb mb ob pv av ev r q P A E g3 g4 g7 g8 g11 g12 g15 l3 true l7 true l11 true l15 false w) (hob : w0.heap.size ≤ ob) (hoV : ob < V.heap.size) (h1 : cb ≠ ob) (h2 : mb ≠ ob) :
    MG w0 V cb mb ob pv av ev r q P A E g3 g4 g7 g8 g11 g12 g15 l3 true l7 true l11 true l15 true (set4 w ob g4 g8 g12 (.int .i64 r)) := by
  have hr : ∀ {u : Value} {n : Nat} {xs : List Value}, w.ownsRow V.heap.size 23 3 u n xs → u.ownBlock ≠ some ob := fun h9 e => by have := (h9.lt ob e).1; omega
  have hx : ∀ {b o : Nat} {v : Value}, V.heap.size ≤ b → w.cell? ⟨b, o, none⟩ = some v → (set4 w ob g4 g8 g12 (.int .i64 r)).cell? ⟨b, o, none⟩ = some v := by
    intro b o v hb hc
    have hne : b ≠ ob := by omega
    have hk : (set4 w ob g4 g8 g12 (.int .i64 r)).heap[b]? = w.heap[b]? := by
      unfold set4
      rw [Below.heap_setCell _ _ _ _ hne, Below.heap_setCell _ _ _ _ hne, Below.heap_setCell _ _ _ _ hne, Below.heap_setCell _ _ _ _ hne]
    exact (World.cell?_of_block (w := w) (a := ⟨b, o, none⟩) hk).trans hc
  have h4 : ∀ {b : Nat} {vs : List Value}, Cells w b vs → b ≠ ob → Cells (set4 w ob g4 g8 g12 (.int .i64 r)) b vs := fun hc hne => (((hc.apart hne 0 _).apart hne 1 _).apart hne 2 _).apart hne 3 _
  refine ⟨set4_below h.be hob _ _ _ _, by rw [set4_size]; exact h.sz, h4 h.cr h1, h4 h.mr h2, Cells.set4 h.co _ _ _ _, fun e => ?_, fun e => ?_, fun e => ?_, fun _ => own_set4 (h.o4 rfl) (hr (h.o4 rfl)) _ _ _ _, fun _ => own_set4 (h.o8 rfl) (hr (h.o8 rfl)) _ _ _ _, fun _ => own_set4 (h.o12 rfl) (hr (h.o12 rfl)) _ _ _ _, h.s48, h.s42, h.s82, h.bd⟩
  · obtain ⟨b, e1, e2, e3, e4⟩ := h.x3 e; exact ⟨b, e1, e2, hx e2 e3, hx (by omega) e4⟩
  · obtain ⟨b, e1, e2, e3, e4⟩ := h.x7 e; exact ⟨b, e1, e2, hx e2 e3, hx (by omega) e4⟩
  · obtain ⟨b, e1, e2, e3, e4⟩ := h.x11 e; exact ⟨b, e1, e2, hx e2 e3, hx (by omega) e4⟩
end

set_option maxHeartbeats 8000000 in
set_option maxRecDepth 100000 in
theorem moved_any (q : Pt) (Ps As Es : List Pt) (r : Int) (pv av ev : Value) (w0 : World) (hp : Lies w0 pv Ps) (ha : Lies w0 av As) (he : Lies w0 ev Es) (hNPs : Ps.length < 1099511627776) (hNAs : As.length < 1099511627776) (hNEs : Es.length < 1099511627776) :
    Calls Try.prog 10 #[coreV pv av ev r, q.v] w0 fun e W => ∃ vp va ve, e = .returned (.agg #[vp, va, ve, .int .i64 r]) ∧ Three w0 W vp va ve (Ps.map (fun p => p.plus q)) As Es := by
  obtain ⟨Px2, hPx⟩ : ∃ X, Ps.map (fun p => p.plus q) = X := ⟨_, rfl⟩
  rw [hPx]
  have HPx : Hid _ := hPx
  clear hPx
  obtain ⟨opv, cpv, rfl, _⟩ := hp.form
  obtain ⟨oav, cav, rfl, _⟩ := ha.form
  obtain ⟨oev, cev, rfl, _⟩ := he.form
  have HLP : Hid _ := hp
  have HLA : Hid _ := ha
  have HLE : Hid _ := he
  clear hp ha he
  unfold coreV Pt.v
  go_enter Try.func10, Try.ntmps10
  go_upto_region 2 with fail
  obtain ⟨V, hV⟩ : ∃ V : World, V = ((w0.alloc (.cells #[.slice opv Ps.length cpv, .slice oav As.length cav, .slice oev Es.length cev, .int .i64 r] 36)).alloc (.cells #[.int .i64 q.x, .int .i64 q.y, .int .i64 q.z] 23)).alloc (.cells #[.slice none 0 0, .slice none 0 0, .slice none 0 0, .int .i64 0] 36) := ⟨_, rfl⟩
  obtain ⟨cb, hcb⟩ : ∃ b, b = w0.heap.size := ⟨_, rfl⟩
  obtain ⟨mb, hmb⟩ : ∃ b, b = w0.heap.size + 1 := ⟨_, rfl⟩
  obtain ⟨ob, hob'⟩ : ∃ b, b = w0.heap.size + 1 + 1 := ⟨_, rfl⟩
  have hBV : Hid (Below w0.heap.size w0 V) := by show Below _ _ _; rw [hV]; exact b_step (b_step (n_after _ _) (n_after _ _)) (n_after _ _)
  have B1 : Hid (Cells V cb [.slice opv Ps.length cpv, .slice oav As.length cav, .slice oev Es.length cev, .int .i64 r]) := by show Cells _ _ _; rw [hV, hcb]; exact ((Cells.new w0 _ _).step (n_after _ _)).step (n_after _ _)
  have B2 : Hid (Cells V mb [.int .i64 q.x, .int .i64 q.y, .int .i64 q.z]) := by show Cells _ _ _; rw [hV, hmb]; have h9 := (Cells.new (w0.alloc (.cells #[.slice opv Ps.length cpv, .slice oav As.length cav, .slice oev Es.length cev, .int .i64 r] 36)) [.int .i64 q.x, .int .i64 q.y, .int .i64 q.z] 23).step (n_after _ (.cells #[.slice none 0 0, .slice none 0 0, .slice none 0 0, .int .i64 0] 36)); rw [World.size_alloc] at h9; exact h9
  have B3 : Hid (Cells V ob [.slice none 0 0, .slice none 0 0, .slice none 0 0, .int .i64 0]) := by show Cells _ _ _; rw [hV, hob']; have h9 := Cells.new ((w0.alloc (.cells #[.slice opv Ps.length cpv, .slice oav As.length cav, .slice oev Es.length cev, .int .i64 r] 36)).alloc (.cells #[.int .i64 q.x, .int .i64 q.y, .int .i64 q.z] 23)) [.slice none 0 0, .slice none 0 0, .slice none 0 0, .int .i64 0] 36; rw [World.size_alloc, World.size_alloc] at h9; exact h9
  have hVs : V.heap.size = w0.heap.size + 3 := by rw [hV]; simp
  rw [← hV, ← hob', ← hmb, ← hcb]
  have hwV : w0.heap.size ≤ V.heap.size := by omega
  have hob : w0.heap.size ≤ ob := by omega
  have hoV : ob < V.heap.size := by omega
  have hco : cb ≠ ob := by omega
  have hmo : mb ≠ ob := by omega
  clear hV hcb hmb hob' hVs
  refine RV.region_is [.some (.pointer (some ⟨cb, 0, none⟩)), .some (.slice opv Ps.length cpv), .some (.func (.func 23) #[] #[.pointer (some ⟨mb, 0, none⟩)]), none, none, .some (.pointer (some ⟨cb, 1, none⟩)), .some (.slice oav As.length cav), none, none, .some (.pointer (some ⟨cb, 2, none⟩)), .some (.slice oev Es.length cev), none, none, .some (.pointer (some ⟨cb, 3, none⟩)), .some (.int .i64 r), none, none] [8, 9, 10, 11, 12, 13, 14, 15, 16, 17, 18, 19, 20, 21, 22, 23, 0] [(2, .pointer (some ⟨cb, 0, none⟩)), (4, .pointer (some ⟨ob, 0, none⟩)), (5, .func (.func 23) #[] #[.pointer (some ⟨mb, 0, none⟩)])] (fun γ L w => MG w0 V cb mb ob (.slice opv Ps.length cpv) (.slice oav As.length cav) (.slice oev Es.length cev) r q Px2 As Es (γ 3) (γ 4) (γ 7) (γ 8) (γ 11) (γ 12) (γ 15) (L 3) (L 4) (L 7) (L 8) (L 11) (L 12) (L 15) (L 16) w) (by kernel_rfl) (by kernel_rfl) (by kernel_rfl) (by kernel_rfl) (by kernel_rfl) (by kernel_rfl) (by kernel_rfl) ⟨rfl, rfl, rfl, trivial⟩ ?_ ?_ ?_
  · have b9 : Below V.heap.size V V.drew := (Below.refl _ _).drew; exact MG.step (w := V) ⟨hBV.out, Nat.le_refl _, B1.out, B2.out, B3.out, (fun e => by cases e), (fun e => by cases e), (fun e => by cases e), (fun e => by cases e), (fun e => by cases e), (fun e => by cases e), (fun e => by cases e), (fun e => by cases e), (fun e => by cases e), (fun e => by cases e)⟩ b9
  · intro D WA Z hD hWA hZ T
    simp only [RV.Outs, RV.Slots, Nat.reduceAdd] at T
    iterate 3 first
      | (refine RV.AllDo.cons _ (RV.pu T (fun γ v L w hl h => by rw [RV.upd_ne γ (i := _) (j := 3) _ (by decide), RV.upd_ne γ (i := _) (j := 4) _ (by decide), RV.upd_ne γ (i := _) (j := 7) _ (by decide), RV.upd_ne γ (i := _) (j := 8) _ (by decide), RV.upd_ne γ (i := _) (j := 11) _ (by decide), RV.upd_ne γ (i := _) (j := 12) _ (by decide), RV.upd_ne γ (i := _) (j := 15) _ (by decide), RV.more_ne (L := L) (i := _) (j := 3) (by decide), RV.more_ne (L := L) (i := _) (j := 4) (by decide), RV.more_ne (L := L) (i := _) (j := 7) (by decide), RV.more_ne (L := L) (i := _) (j := 8) (by decide), RV.more_ne (L := L) (i := _) (j := 11) (by decide), RV.more_ne (L := L) (i := _) (j := 12) (by decide), RV.more_ne (L := L) (i := _) (j := 15) (by decide), RV.more_ne (L := L) (i := _) (j := 16) (by decide)]; exact h) (fun γ L a w hH hl h9 k9 => ⟨_, ?_, rfl⟩)) ?_; · simp [execOp, go_sem, h9])
      | (refine RV.AllDo.cons _ (RV.pu T (fun γ v L w hl h => by rw [RV.upd_ne γ (i := _) (j := 3) _ (by decide), RV.upd_ne γ (i := _) (j := 4) _ (by decide), RV.upd_ne γ (i := _) (j := 7) _ (by decide), RV.upd_ne γ (i := _) (j := 8) _ (by decide), RV.upd_ne γ (i := _) (j := 11) _ (by decide), RV.upd_ne γ (i := _) (j := 12) _ (by decide), RV.upd_ne γ (i := _) (j := 15) _ (by decide), RV.more_ne (L := L) (i := _) (j := 3) (by decide), RV.more_ne (L := L) (i := _) (j := 4) (by decide), RV.more_ne (L := L) (i := _) (j := 7) (by decide), RV.more_ne (L := L) (i := _) (j := 8) (by decide), RV.more_ne (L := L) (i := _) (j := 11) (by decide), RV.more_ne (L := L) (i := _) (j := 12) (by decide), RV.more_ne (L := L) (i := _) (j := 15) (by decide), RV.more_ne (L := L) (i := _) (j := 16) (by decide)]; exact h) (fun γ L a w hH hl h9 k9 => ⟨_, ?_, rfl⟩)) ?_; · have wz9 := (hH.glob.cr 0 _ rfl).1; simp [Region.binds] at k9; simp [execOp, go_sem, h9, k9, wz9])
    refine RV.AllDo.cons _ (RV.does_call (fun γ L a w hH hl hA => by have h9 := T γ L a w hH; have k9 := hA; simp [Region.binds] at k9; refine ⟨26, #[.slice opv Ps.length cpv, .func (.func 23) #[] #[.pointer (some ⟨mb, 0, none⟩)]], by simp [go_sem, h9, k9], Calls.mono (each_in_pt _ _ _ _ _ _ w) ?_⟩; rintro e w2 ⟨rfl, rfl⟩; have b9 := b_step (n_after w (.cells #[.slice opv Ps.length cpv] 24)) (n_after _ (.cells #[.func (.func 23) #[] #[.pointer (some ⟨mb, 0, none⟩)]] 67)); refine ⟨_, rfl, trivial, fun j v _ h => h.keep _, ?_⟩; rw [RV.upd_ne γ (i := 3) (j := 4) _ (by decide), RV.upd_ne γ (i := 3) (j := 7) _ (by decide), RV.upd_ne γ (i := 3) (j := 8) _ (by decide), RV.upd_ne γ (i := 3) (j := 11) _ (by decide), RV.upd_ne γ (i := 3) (j := 12) _ (by decide), RV.upd_ne γ (i := 3) (j := 15) _ (by decide), RV.more_ne (L := L) (i := 3) (j := 4) (by decide), RV.more_ne (L := L) (i := 3) (j := 7) (by decide), RV.more_ne (L := L) (i := 3) (j := 8) (by decide), RV.more_ne (L := L) (i := 3) (j := 11) (by decide), RV.more_ne (L := L) (i := 3) (j := 12) (by decide), RV.more_ne (L := L) (i := 3) (j := 15) (by decide), RV.more_ne (L := L) (i := 3) (j := 16) (by decide), RV.upd_self, RV.more_self]; exact hH.glob.each3 b9 hH.glob.sz (by simp [go_sem]) (by simp [go_sem]))) ?_
    refine RV.AllDo.cons _ (RV.does_call (fun γ L a w hH hl hA => by have l0 : L 3 = true := hA ⟨3, .data⟩ (by simp) rfl; have e0 := hH.slot 3 10 (by rw [← hD]; rfl) l0; have h15 : L 15 = false := RV.not_yet hH (RV.wt (j := 15) (i := 4) hWA (by kernel_rfl)) hl; have h16 : L 16 = false := RV.not_yet hH (RV.wt (j := 16) (i := 15) hWA (by kernel_rfl)) h15; have hG := hH.glob; obtain ⟨b, hv0, hbV, cp0, cf0⟩ := hG.x3 l0; rw [hv0] at e0; refine ⟨25, #[.func (.func 55) #[] #[.pointer (some ⟨b, 0, none⟩), .pointer (some ⟨b + 1, 0, none⟩)]], by simp [go_sem, e0], Calls.mono (gather_plain 23 b #[.pointer (some ⟨mb, 0, none⟩)] (fun p => p.plus q) Ps opv cpv w (fun X => Cells X mb [.int .i64 q.x, .int .i64 q.y, .int .i64 q.z]) hG.mr (fun A B r2 hs hg hr => Cells.grew hs hg (fun r e => by have h8 := hr r e; have h7 := hG.mr.lt; omega)) (fun A B hs hk => Cells.keepO hs hk hG.mr.lt) (HLP.out.below hG.be) (enters_of Try.func23 (by kernel_rfl) rfl) (fun p X hs => move1_any p q mb X hs) cp0 cf0 hNPs) ?_⟩; rintro e w2 ⟨u, rfl, o9, g9⟩; rw [HPx.out] at o9; refine ⟨_, rfl, trivial, fun j v _ h => h.keep _, ?_⟩; rw [RV.upd_ne γ (i := 4) (j := 3) _ (by decide), RV.upd_ne γ (i := 4) (j := 7) _ (by decide), RV.upd_ne γ (i := 4) (j := 8) _ (by decide), RV.upd_ne γ (i := 4) (j := 11) _ (by decide), RV.upd_ne γ (i := 4) (j := 12) _ (by decide), RV.upd_ne γ (i := 4) (j := 15) _ (by decide), RV.more_ne (L := L) (i := 4) (j := 3) (by decide), RV.more_ne (L := L) (i := 4) (j := 7) (by decide), RV.more_ne (L := L) (i := 4) (j := 8) (by decide), RV.more_ne (L := L) (i := 4) (j := 11) (by decide), RV.more_ne (L := L) (i := 4) (j := 12) (by decide), RV.more_ne (L := L) (i := 4) (j := 15) (by decide), RV.more_ne (L := L) (i := 4) (j := 16) (by decide), RV.upd_self, RV.more_self]; exact hG.got4 g9 o9 h15 h16)) ?_
    iterate 2 first
      | (refine RV.AllDo.cons _ (RV.pu T (fun γ v L w hl h => by rw [RV.upd_ne γ (i := _) (j := 3) _ (by decide), RV.upd_ne γ (i := _) (j := 4) _ (by decide), RV.upd_ne γ (i := _) (j := 7) _ (by decide), RV.upd_ne γ (i := _) (j := 8) _ (by decide), RV.upd_ne γ (i := _) (j := 11) _ (by decide), RV.upd_ne γ (i := _) (j := 12) _ (by decide), RV.upd_ne γ (i := _) (j := 15) _ (by decide), RV.more_ne (L := L) (i := _) (j := 3) (by decide), RV.more_ne (L := L) (i := _) (j := 4) (by decide), RV.more_ne (L := L) (i := _) (j := 7) (by decide), RV.more_ne (L := L) (i := _) (j := 8) (by decide), RV.more_ne (L := L) (i := _) (j := 11) (by decide), RV.more_ne (L := L) (i := _) (j := 12) (by decide), RV.more_ne (L := L) (i := _) (j := 15) (by decide), RV.more_ne (L := L) (i := _) (j := 16) (by decide)]; exact h) (fun γ L a w hH hl h9 k9 => ⟨_, ?_, rfl⟩)) ?_; · simp [execOp, go_sem, h9])
      | (refine RV.AllDo.cons _ (RV.pu T (fun γ v L w hl h => by rw [RV.upd_ne γ (i := _) (j := 3) _ (by decide), RV.upd_ne γ (i := _) (j := 4) _ (by decide), RV.upd_ne γ (i := _) (j := 7) _ (by decide), RV.upd_ne γ (i := _) (j := 8) _ (by decide), RV.upd_ne γ (i := _) (j := 11) _ (by decide), RV.upd_ne γ (i := _) (j := 12) _ (by decide), RV.upd_ne γ (i := _) (j := 15) _ (by decide), RV.more_ne (L := L) (i := _) (j := 3) (by decide), RV.more_ne (L := L) (i := _) (j := 4) (by decide), RV.more_ne (L := L) (i := _) (j := 7) (by decide), RV.more_ne (L := L) (i := _) (j := 8) (by decide), RV.more_ne (L := L) (i := _) (j := 11) (by decide), RV.more_ne (L := L) (i := _) (j := 12) (by decide), RV.more_ne (L := L) (i := _) (j := 15) (by decide), RV.more_ne (L := L) (i := _) (j := 16) (by decide)]; exact h) (fun γ L a w hH hl h9 k9 => ⟨_, ?_, rfl⟩)) ?_; · have wz9 := (hH.glob.cr 1 _ rfl).1; simp [Region.binds] at k9; simp [execOp, go_sem, h9, k9, wz9])
    refine RV.AllDo.cons _ (RV.does_call (fun γ L a w hH hl hA => by have h9 := T γ L a w hH; have k9 := hA; simp [Region.binds] at k9; refine ⟨26, #[.slice oav As.length cav, .func (.func 27) #[] #[]], by simp [go_sem, h9, k9], Calls.mono (each_in_pt _ _ _ _ _ _ w) ?_⟩; rintro e w2 ⟨rfl, rfl⟩; have b9 := b_step (n_after w (.cells #[.slice oav As.length cav] 24)) (n_after _ (.cells #[.func (.func 27) #[] #[]] 67)); refine ⟨_, rfl, trivial, fun j v _ h => h.keep _, ?_⟩; rw [RV.upd_ne γ (i := 7) (j := 3) _ (by decide), RV.upd_ne γ (i := 7) (j := 4) _ (by decide), RV.upd_ne γ (i := 7) (j := 8) _ (by decide), RV.upd_ne γ (i := 7) (j := 11) _ (by decide), RV.upd_ne γ (i := 7) (j := 12) _ (by decide), RV.upd_ne γ (i := 7) (j := 15) _ (by decide), RV.more_ne (L := L) (i := 7) (j := 3) (by decide), RV.more_ne (L := L) (i := 7) (j := 4) (by decide), RV.more_ne (L := L) (i := 7) (j := 8) (by decide), RV.more_ne (L := L) (i := 7) (j := 11) (by decide), RV.more_ne (L := L) (i := 7) (j := 12) (by decide), RV.more_ne (L := L) (i := 7) (j := 15) (by decide), RV.more_ne (L := L) (i := 7) (j := 16) (by decide), RV.upd_self, RV.more_self]; exact hH.glob.each7 b9 hH.glob.sz (by simp [go_sem]) (by simp [go_sem]))) ?_
    refine RV.AllDo.cons _ (RV.does_call (fun γ L a w hH hl hA => by have l0 : L 7 = true := hA ⟨7, .data⟩ (by simp) rfl; have e0 := hH.slot 7 14 (by rw [← hD]; rfl) l0; have h15 : L 15 = false := RV.not_yet hH (RV.wt (j := 15) (i := 8) hWA (by kernel_rfl)) hl; have h16 : L 16 = false := RV.not_yet hH (RV.wt (j := 16) (i := 15) hWA (by kernel_rfl)) h15; have hG := hH.glob; obtain ⟨b, hv0, hbV, cp0, cf0⟩ := hG.x7 l0; rw [hv0] at e0; refine ⟨25, #[.func (.func 55) #[] #[.pointer (some ⟨b, 0, none⟩), .pointer (some ⟨b + 1, 0, none⟩)]], by simp [go_sem, e0], Calls.mono (gather_plain 27 b #[] (fun p => p) As oav cav w (fun _ => True) trivial (fun _ _ _ _ _ _ => trivial) (fun _ _ _ _ => trivial) (HLA.out.below hG.be) (enters_of Try.func27 (by kernel_rfl) rfl) (fun p X hs => same_any p X) cp0 cf0 hNAs) ?_⟩; rintro e w2 ⟨u, rfl, o9, g9⟩; rw [List.map_id'] at o9; refine ⟨_, rfl, trivial, fun j v _ h => h.keep _, ?_⟩; rw [RV.upd_ne γ (i := 8) (j := 3) _ (by decide), RV.upd_ne γ (i := 8) (j := 4) _ (by decide), RV.upd_ne γ (i := 8) (j := 7) _ (by decide), RV.upd_ne γ (i := 8) (j := 11) _ (by decide), RV.upd_ne γ (i := 8) (j := 12) _ (by decide), RV.upd_ne γ (i := 8) (j := 15) _ (by decide), RV.more_ne (L := L) (i := 8) (j := 3) (by decide), RV.more_ne (L := L) (i := 8) (j := 4) (by decide), RV.more_ne (L := L) (i := 8) (j := 7) (by decide), RV.more_ne (L := L) (i := 8) (j := 11) (by decide), RV.more_ne (L := L) (i := 8) (j := 12) (by decide), RV.more_ne (L := L) (i := 8) (j := 15) (by decide), RV.more_ne (L := L) (i := 8) (j := 16) (by decide), RV.upd_self, RV.more_self]; exact hG.got8 g9 o9 h15 h16)) ?_
    iterate 2 first
      | (refine RV.AllDo.cons _ (RV.pu T (fun γ v L w hl h => by rw [RV.upd_ne γ (i := _) (j := 3) _ (by decide), RV.upd_ne γ (i := _) (j := 4) _ (by decide), RV.upd_ne γ (i := _) (j := 7) _ (by decide), RV.upd_ne γ (i := _) (j := 8) _ (by decide), RV.upd_ne γ (i := _) (j := 11) _ (by decide), RV.upd_ne γ (i := _) (j := 12) _ (by decide), RV.upd_ne γ (i := _) (j := 15) _ (by decide), RV.more_ne (L := L) (i := _) (j := 3) (by decide), RV.more_ne (L := L) (i := _) (j := 4) (by decide), RV.more_ne (L := L) (i := _) (j := 7) (by decide), RV.more_ne (L := L) (i := _) (j := 8) (by decide), RV.more_ne (L := L) (i := _) (j := 11) (by decide), RV.more_ne (L := L) (i := _) (j := 12) (by decide), RV.more_ne (L := L) (i := _) (j := 15) (by decide), RV.more_ne (L := L) (i := _) (j := 16) (by decide)]; exact h) (fun γ L a w hH hl h9 k9 => ⟨_, ?_, rfl⟩)) ?_; · simp [execOp, go_sem, h9])
      | (refine RV.AllDo.cons _ (RV.pu T (fun γ v L w hl h => by rw [RV.upd_ne γ (i := _) (j := 3) _ (by decide), RV.upd_ne γ (i := _) (j := 4) _ (by decide), RV.upd_ne γ (i := _) (j := 7) _ (by decide), RV.upd_ne γ (i := _) (j := 8) _ (by decide), RV.upd_ne γ (i := _) (j := 11) _ (by decide), RV.upd_ne γ (i := _) (j := 12) _ (by decide), RV.upd_ne γ (i := _) (j := 15) _ (by decide), RV.more_ne (L := L) (i := _) (j := 3) (by decide), RV.more_ne (L := L) (i := _) (j := 4) (by decide), RV.more_ne (L := L) (i := _) (j := 7) (by decide), RV.more_ne (L := L) (i := _) (j := 8) (by decide), RV.more_ne (L := L) (i := _) (j := 11) (by decide), RV.more_ne (L := L) (i := _) (j := 12) (by decide), RV.more_ne (L := L) (i := _) (j := 15) (by decide), RV.more_ne (L := L) (i := _) (j := 16) (by decide)]; exact h) (fun γ L a w hH hl h9 k9 => ⟨_, ?_, rfl⟩)) ?_; · have wz9 := (hH.glob.cr 2 _ rfl).1; simp [Region.binds] at k9; simp [execOp, go_sem, h9, k9, wz9])
    refine RV.AllDo.cons _ (RV.does_call (fun γ L a w hH hl hA => by have h9 := T γ L a w hH; have k9 := hA; simp [Region.binds] at k9; refine ⟨26, #[.slice oev Es.length cev, .func (.func 27) #[] #[]], by simp [go_sem, h9, k9], Calls.mono (each_in_pt _ _ _ _ _ _ w) ?_⟩; rintro e w2 ⟨rfl, rfl⟩; have b9 := b_step (n_after w (.cells #[.slice oev Es.length cev] 24)) (n_after _ (.cells #[.func (.func 27) #[] #[]] 67)); refine ⟨_, rfl, trivial, fun j v _ h => h.keep _, ?_⟩; rw [RV.upd_ne γ (i := 11) (j := 3) _ (by decide), RV.upd_ne γ (i := 11) (j := 4) _ (by decide), RV.upd_ne γ (i := 11) (j := 7) _ (by decide), RV.upd_ne γ (i := 11) (j := 8) _ (by decide), RV.upd_ne γ (i := 11) (j := 12) _ (by decide), RV.upd_ne γ (i := 11) (j := 15) _ (by decide), RV.more_ne (L := L) (i := 11) (j := 3) (by decide), RV.more_ne (L := L) (i := 11) (j := 4) (by decide), RV.more_ne (L := L) (i := 11) (j := 7) (by decide), RV.more_ne (L := L) (i := 11) (j := 8) (by decide), RV.more_ne (L := L) (i := 11) (j := 12) (by decide), RV.more_ne (L := L) (i := 11) (j := 15) (by decide), RV.more_ne (L := L) (i := 11) (j := 16) (by decide), RV.upd_self, RV.more_self]; exact hH.glob.each11 b9 hH.glob.sz (by simp [go_sem]) (by simp [go_sem]))) ?_
    refine RV.AllDo.cons _ (RV.does_call (fun γ L a w hH hl hA => by have l0 : L 11 = true := hA ⟨11, .data⟩ (by simp) rfl; have e0 := hH.slot 11 18 (by rw [← hD]; rfl) l0; have h15 : L 15 = false := RV.not_yet hH (RV.wt (j := 15) (i := 12) hWA (by kernel_rfl)) hl; have h16 : L 16 = false := RV.not_yet hH (RV.wt (j := 16) (i := 15) hWA (by kernel_rfl)) h15; have hG := hH.glob; obtain ⟨b, hv0, hbV, cp0, cf0⟩ := hG.x11 l0; rw [hv0] at e0; refine ⟨25, #[.func (.func 55) #[] #[.pointer (some ⟨b, 0, none⟩), .pointer (some ⟨b + 1, 0, none⟩)]], by simp [go_sem, e0], Calls.mono (gather_plain 27 b #[] (fun p => p) Es oev cev w (fun _ => True) trivial (fun _ _ _ _ _ _ => trivial) (fun _ _ _ _ => trivial) (HLE.out.below hG.be) (enters_of Try.func27 (by kernel_rfl) rfl) (fun p X hs => same_any p X) cp0 cf0 hNEs) ?_⟩; rintro e w2 ⟨u, rfl, o9, g9⟩; rw [List.map_id'] at o9; refine ⟨_, rfl, trivial, fun j v _ h => h.keep _, ?_⟩; rw [RV.upd_ne γ (i := 12) (j := 3) _ (by decide), RV.upd_ne γ (i := 12) (j := 4) _ (by decide), RV.upd_ne γ (i := 12) (j := 7) _ (by decide), RV.upd_ne γ (i := 12) (j := 8) _ (by decide), RV.upd_ne γ (i := 12) (j := 11) _ (by decide), RV.upd_ne γ (i := 12) (j := 15) _ (by decide), RV.more_ne (L := L) (i := 12) (j := 3) (by decide), RV.more_ne (L := L) (i := 12) (j := 4) (by decide), RV.more_ne (L := L) (i := 12) (j := 7) (by decide), RV.more_ne (L := L) (i := 12) (j := 8) (by decide), RV.more_ne (L := L) (i := 12) (j := 11) (by decide), RV.more_ne (L := L) (i := 12) (j := 15) (by decide), RV.more_ne (L := L) (i := 12) (j := 16) (by decide), RV.upd_self, RV.more_self]; exact hG.got12 g9 o9 h15 h16)) ?_
    iterate 2 first
      | (refine RV.AllDo.cons _ (RV.pu T (fun γ v L w hl h => by rw [RV.upd_ne γ (i := _) (j := 3) _ (by decide), RV.upd_ne γ (i := _) (j := 4) _ (by decide), RV.upd_ne γ (i := _) (j := 7) _ (by decide), RV.upd_ne γ (i := _) (j := 8) _ (by decide), RV.upd_ne γ (i := _) (j := 11) _ (by decide), RV.upd_ne γ (i := _) (j := 12) _ (by decide), RV.upd_ne γ (i := _) (j := 15) _ (by decide), RV.more_ne (L := L) (i := _) (j := 3) (by decide), RV.more_ne (L := L) (i := _) (j := 4) (by decide), RV.more_ne (L := L) (i := _) (j := 7) (by decide), RV.more_ne (L := L) (i := _) (j := 8) (by decide), RV.more_ne (L := L) (i := _) (j := 11) (by decide), RV.more_ne (L := L) (i := _) (j := 12) (by decide), RV.more_ne (L := L) (i := _) (j := 15) (by decide), RV.more_ne (L := L) (i := _) (j := 16) (by decide)]; exact h) (fun γ L a w hH hl h9 k9 => ⟨_, ?_, rfl⟩)) ?_; · simp [execOp, go_sem, h9])
      | (refine RV.AllDo.cons _ (RV.pu T (fun γ v L w hl h => by rw [RV.upd_ne γ (i := _) (j := 3) _ (by decide), RV.upd_ne γ (i := _) (j := 4) _ (by decide), RV.upd_ne γ (i := _) (j := 7) _ (by decide), RV.upd_ne γ (i := _) (j := 8) _ (by decide), RV.upd_ne γ (i := _) (j := 11) _ (by decide), RV.upd_ne γ (i := _) (j := 12) _ (by decide), RV.upd_ne γ (i := _) (j := 15) _ (by decide), RV.more_ne (L := L) (i := _) (j := 3) (by decide), RV.more_ne (L := L) (i := _) (j := 4) (by decide), RV.more_ne (L := L) (i := _) (j := 7) (by decide), RV.more_ne (L := L) (i := _) (j := 8) (by decide), RV.more_ne (L := L) (i := _) (j := 11) (by decide), RV.more_ne (L := L) (i := _) (j := 12) (by decide), RV.more_ne (L := L) (i := _) (j := 15) (by decide), RV.more_ne (L := L) (i := _) (j := 16) (by decide)]; exact h) (fun γ L a w hH hl h9 k9 => ⟨_, ?_, rfl⟩)) ?_; · have wz9 := (hH.glob.cr 3 _ rfl).1; simp [Region.binds] at k9; simp [execOp, go_sem, h9, k9, wz9])
    refine RV.AllDo.cons _ (RV.does_step (fun γ L a w hH hl hA => by have h9 := T γ L a w hH; have k9 := hA; simp [Region.binds] at k9; have l0 : L 4 = true := hA ⟨4, .data⟩ (by simp) rfl; have l1 : L 8 = true := hA ⟨8, .data⟩ (by simp) rfl; have l2 : L 12 = true := hA ⟨12, .data⟩ (by simp) rfl; have e0 := hH.slot 4 11 (by rw [← hD]; rfl) l0; have e1 := hH.slot 8 15 (by rw [← hD]; rfl) l1; have e2 := hH.slot 12 19 (by rw [← hD]; rfl) l2; obtain ⟨o5_, c5_, s5_⟩ := rowp_form (hH.glob.o4 l0); obtain ⟨o9_, c9_, s9_⟩ := rowp_form (hH.glob.o8 l1); obtain ⟨o13_, c13_, s13_⟩ := rowp_form (hH.glob.o12 l2); rw [s5_] at e0; rw [s9_] at e1; rw [s13_] at e2; exact ⟨.agg #[γ 4, γ 8, γ 12, .int .i64 r], w, by rw [s5_, s9_, s13_]; simp [execOp, go_sem, e0, e1, e2, h9, k9], trivial, fun j v _ h => h.keep _, by rw [RV.upd_ne γ (i := 15) (j := 3) _ (by decide), RV.upd_ne γ (i := 15) (j := 4) _ (by decide), RV.upd_ne γ (i := 15) (j := 7) _ (by decide), RV.upd_ne γ (i := 15) (j := 8) _ (by decide), RV.upd_ne γ (i := 15) (j := 11) _ (by decide), RV.upd_ne γ (i := 15) (j := 12) _ (by decide), RV.more_ne (L := L) (i := 15) (j := 3) (by decide), RV.more_ne (L := L) (i := 15) (j := 4) (by decide), RV.more_ne (L := L) (i := 15) (j := 7) (by decide), RV.more_ne (L := L) (i := 15) (j := 8) (by decide), RV.more_ne (L := L) (i := 15) (j := 11) (by decide), RV.more_ne (L := L) (i := 15) (j := 12) (by decide), RV.more_ne (L := L) (i := 15) (j := 16) (by decide), RV.upd_self, RV.more_self]; exact hH.glob.built⟩)) ?_
    refine RV.AllDo.cons _ (RV.does_store (fun γ L a w hH hl hA => by have h9 := T γ L a w hH; have l1 : L 15 = true := hA ⟨15, .data⟩ (by simp) rfl; have e1 := hH.slot 15 22 (by rw [← hD]; rfl) l1; have m4 : L 4 = true := hH.closed 15 4 (RV.wt (j := 15) (i := 4) hWA (by kernel_rfl)) l1; have m8 : L 8 = true := hH.closed 15 8 (RV.wt (j := 15) (i := 8) hWA (by kernel_rfl)) l1; have m12 : L 12 = true := hH.closed 15 12 (RV.wt (j := 15) (i := 12) hWA (by kernel_rfl)) l1; obtain ⟨o5_, c5_, s5_⟩ := rowp_form (hH.glob.o4 m4); obtain ⟨o9_, c9_, s9_⟩ := rowp_form (hH.glob.o8 m8); obtain ⟨o13_, c13_, s13_⟩ := rowp_form (hH.glob.o12 m12); have hG := hH.glob; rw [m4, m8, m12, hl] at hG; have xb := hG.bd l1; rw [xb, s5_, s9_, s13_] at e1; have q9 := hG.fill hob hoV hco hmo; obtain ⟨wz0, wf0⟩ := hG.co 0 _ rfl; obtain ⟨wz1, wf1⟩ := hG.co 1 _ rfl; obtain ⟨wz2, wf2⟩ := hG.co 2 _ rfl; obtain ⟨wz3, wf3⟩ := hG.co 3 _ rfl; refine ⟨set4 w ob (γ 4) (γ 8) (γ 12) (.int .i64 r), by rw [s5_, s9_, s13_]; simp [execOp, go_sem, e1, set4, wz0, wz1, wz2, wz3, wf0, wf1, wf2, wf3, h9], trivial, fun j v _ h => h.keep _, ?_⟩; rw [RV.upd_ne γ (i := 16) (j := 3) _ (by decide), RV.upd_ne γ (i := 16) (j := 4) _ (by decide), RV.upd_ne γ (i := 16) (j := 7) _ (by decide), RV.upd_ne γ (i := 16) (j := 8) _ (by decide), RV.upd_ne γ (i := 16) (j := 11) _ (by decide), RV.upd_ne γ (i := 16) (j := 12) _ (by decide), RV.upd_ne γ (i := 16) (j := 15) _ (by decide), RV.more_ne (L := L) (i := 16) (j := 3) (by decide), RV.more_ne (L := L) (i := 16) (j := 4) (by decide), RV.more_ne (L := L) (i := 16) (j := 7) (by decide), RV.more_ne (L := L) (i := 16) (j := 8) (by decide), RV.more_ne (L := L) (i := 16) (j := 11) (by decide), RV.more_ne (L := L) (i := 16) (j := 12) (by decide), RV.more_ne (L := L) (i := 16) (j := 15) (by decide), RV.more_self, m4, m8, m12]; exact q9)) ?_
    exact RV.AllDo.nil
  · intro γ w5 L9 hL hI9 hG9
    have hG := hG9
    rw [hL 3 (by decide), hL 4 (by decide), hL 7 (by decide), hL 8 (by decide), hL 11 (by decide), hL 12 (by decide), hL 15 (by decide), hL 16 (by decide)] at hG
    clear hL hI9 hG9
    simp only [RV.putL, Act.put, List.setIfInBounds_toArray, List.set_cons_zero, List.set_cons_succ, Nat.reduceAdd]
    obtain ⟨o5_, c5_, s5_⟩ := rowp_form (hG.o4 rfl)
    obtain ⟨o9_, c9_, s9_⟩ := rowp_form (hG.o8 rfl)
    obtain ⟨o13_, c13_, s13_⟩ := rowp_form (hG.o12 rfl)
    have T3 : Hid (Three w0 w5 (γ 4) (γ 8) (γ 12) Px2 As Es) := ⟨own_le (hG.o4 rfl) hwV, own_le (hG.o8 rfl) hwV, own_le (hG.o12 rfl) hwV, hG.s48 rfl rfl, hG.s42 rfl rfl, hG.s82 rfl rfl, hG.be⟩
    have C9 : Hid (Cells w5 ob [γ 4, γ 8, γ 12, .int .i64 r]) := hG.co
    rw [s5_, s9_, s13_] at C9 T3
    clear hG s5_ s9_ s13_
    have k0 := (C9.out 0 _ rfl).1
    have k1 := (C9.out 1 _ rfl).1
    have k2 := (C9.out 2 _ rfl).1
    have k3 := (C9.out 3 _ rfl).1
    go_wp2
    exact bodyPost_ret (v := .agg #[.slice o5_ Px2.length c5_, .slice o9_ As.length c9_, .slice o13_ Es.length c13_, .int .i64 r]) (by simp [results, Try.results10, go_sem, k0, k1, k2, k3]) rfl ⟨_, _, _, rfl, T3.out⟩
end Go.Proofs.Ytfalniafkambmaa
namespace Go.Proofs.Ytfalniafkambmaa
open Fx (isq isq_is isq_of)
set_option linter.unusedVariables false

theorem neg_dot (n p : Pt) : n.neg.dot p = -(n.dot p) := by unfold Pt.neg Pt.dot; dsimp only; simp only [Int.neg_mul]; omega
theorem hiK_neg (n : Pt) (P : List Pt) : ∀ k, hiK n.neg P k = -(loK n P k)
  | 0 => neg_dot _ _
  | k + 1 => by simp only [hiK, loK, hiK_neg n P k, neg_dot]; omega
end Go.Proofs.Ytfalniafkambmaa
namespace Go.Proofs.Ytfalniafkambmaa
open Go.ChangeShapes Go.WideShapes Go.Deep Go.Joins

section
variable {H : Type} {enc : TypeId × Value → H} {w : World} {base : Nat} {spare : Nat → Bool} {held : Bool}

set_option maxRecDepth 100000 in
theorem open_point {r : Reach} {b0 : Nat} {v : Value} {d : DataW H} {p : List MemPlace} (hv : Value.okWide Try.prog w r b0 23 v) (h : DataW.Trod enc Try.prog w base spare held 23 v d p) :
    ∃ x y z : Int, v = .agg #[.int .i64 x, .int .i64 y, .int .i64 z] ∧ d = .agg [.lit (.int .i64 x), .lit (.int .i64 y), .lit (.int .i64 z)] ∧ p = [] ∧ (Lit.int .i64 x).wf = true ∧ (Lit.int .i64 y).wf = true ∧ (Lit.int .i64 z).wf = true := by
  obtain ⟨c0, c1, c2, y0, y1, y2, n, rfl, rfl, rfl, t0, t1, t2⟩ := open_agg3 Try.underlying23 (by kernel_rfl) (by kernel_rfl) hv h
  obtain ⟨x, rfl, rfl, hx⟩ := lit_of t0
  obtain ⟨y, rfl, rfl, hy⟩ := lit_of t1
  obtain ⟨z, rfl, rfl, hz⟩ := lit_of t2
  exact ⟨x, y, z, rfl, rfl, rfl, hx, hy, hz⟩
end
end Go.Proofs.Ytfalniafkambmaa

namespace Go.Proofs.Ytfalniafkambmaa
namespace NM
set_option linter.unusedVariables false

theorem neg_dot2 (n p : Pt) : n.neg.dot p.neg = n.dot p := by unfold Pt.neg Pt.dot; dsimp only; simp only [Int.neg_mul_neg]
theorem dn_neg (n : Pt) : dn n.neg = dn n := by unfold dn; rw [neg_dot2]
theorem neg_neg (p : Pt) : p.neg.neg = p := by
  obtain ⟨x, y, z⟩ := p
  unfold Pt.neg
  simp
theorem neg_O {p : Pt} : p.neg = Pt.O ↔ p = Pt.O := by
  obtain ⟨x, y, z⟩ := p
  unfold Pt.neg Pt.O
  simp only [Pt.mk.injEq]
  omega
theorem dbl_neg (p : Pt) : p.neg.dbl = p.dbl.neg := by
  unfold Pt.dbl Pt.neg
  dsimp only
  simp only [Int.mul_neg]
theorem lngF_neg : ∀ (k : Nat) (p : Pt), lngF k p.neg = (lngF k p).neg
  | 0, p => rfl
  | k + 1, p => by
    unfold lngF
    rw [neg_in]
    split
    · rw [dbl_neg]; exact lngF_neg k _
    · rfl
theorem lng_neg (p : Pt) : p.neg.lng = p.lng.neg := by
  unfold Pt.lng
  rw [neg_short]
  by_cases h : p.short = Pt.O
  · rw [if_pos h, if_pos (neg_O.2 h)]; rfl
  · rw [if_neg h, if_neg (fun e => h (neg_O.1 e))]; exact lngF_neg _ _
theorem sub_neg (p q : Pt) : (p.sub q) = (q.sub p).neg := by
  unfold Pt.sub Pt.neg
  dsimp only
  congr 1 <;> omega
theorem cross_flip (e f : Pt) : f.cross e = (e.cross f).neg := by
  unfold Pt.cross Pt.neg
  dsimp only
  congr 1 <;> (simp only [Int.neg_sub]; congr 1 <;> exact Int.mul_comm _ _)
theorem cross_negl (e f : Pt) : e.neg.cross f = (e.cross f).neg := by
  unfold Pt.cross Pt.neg
  dsimp only
  congr 1 <;> (simp only [Int.neg_mul, Int.neg_sub]; omega)
theorem cross_negr (e f : Pt) : e.cross f.neg = (e.cross f).neg := by
  unfold Pt.cross Pt.neg
  dsimp only
  congr 1 <;> (simp only [Int.mul_neg, Int.neg_sub]; omega)
theorem wayD_flip (p q : Pt) : wayD q p = (wayD p q).neg := by
  unfold wayD
  rw [← neg_short, ← sub_neg]
theorem wayE_neg (d e : Pt) : wayE d.neg e = (wayE d e).neg := by
  unfold wayE
  rw [cross_negr, neg_short, cross_negl]
/-- A candidate of one is one of the other, perhaps turned about. -/
theorem cand_flip {a b : Cr} {c : Pt} (h : c ∈ candL a b) : c ∈ candL b a ∨ c.neg ∈ candL b a := by
  unfold candL at h ⊢
  rcases List.mem_append.1 h with h | h
  · left
    refine List.mem_append_left _ ?_
    rcases List.mem_append.1 h with h | h
    · exact List.mem_append_right _ h
    · exact List.mem_append_left _ h
  · right
    refine List.mem_append_right _ ?_
    rcases List.mem_append.1 h with h | h
    · refine List.mem_append_left _ ?_
      unfold crossL at h ⊢
      obtain ⟨e, he, h⟩ := List.mem_flatMap.1 h
      obtain ⟨f, hf, rfl⟩ := List.mem_map.1 h
      exact List.mem_flatMap.2 ⟨f, hf, List.mem_map.2 ⟨e, he, cross_flip e f⟩⟩
    · refine List.mem_append_right _ ?_
      unfold wayL at h ⊢
      by_cases h2 : 2 < a.P.length ∧ 2 < b.P.length
      · rw [if_pos h2] at h; cases h
      · rw [if_neg h2] at h
        rw [if_neg (fun e => h2 ⟨e.2, e.1⟩)]
        obtain ⟨p, hp, h⟩ := List.mem_flatMap.1 h
        unfold wayR at h
        obtain ⟨q, hq, h⟩ := List.mem_flatMap.1 h
        refine List.mem_flatMap.2 ⟨q, hq, ?_⟩
        unfold wayR
        refine List.mem_flatMap.2 ⟨p, hp, ?_⟩
        unfold wayG at h ⊢
        rcases List.mem_cons.1 h with rfl | h
        · rw [← wayD_flip]; exact List.mem_cons_self
        · obtain ⟨e, he, rfl⟩ := List.mem_map.1 h
          refine List.mem_cons_of_mem _ (List.mem_map.2 ⟨e, ?_, ?_⟩)
          · rcases List.mem_append.1 he with he | he
            · exact List.mem_append_right _ he
            · exact List.mem_append_left _ he
          · rw [wayD_flip, wayE_neg]
theorem both_in {p : Pt} : ∀ {L : List Pt}, p ∈ L → p.lng ≠ Pt.O → p.lng ∈ both L ∧ p.lng.neg ∈ both L
  | [], h, _ => by cases h
  | q :: r, h, hne => by
    unfold both
    rcases List.mem_cons.1 h with rfl | h
    · rw [if_neg hne]; exact ⟨List.mem_cons_self, List.mem_cons_of_mem _ List.mem_cons_self⟩
    · obtain ⟨h1, h2⟩ := both_in h hne
      split
      · exact ⟨h1, h2⟩
      · exact ⟨List.mem_cons_of_mem _ (List.mem_cons_of_mem _ h1), List.mem_cons_of_mem _ (List.mem_cons_of_mem _ h2)⟩
theorem both_flip {a b : Cr} {n : Pt} (h : n ∈ both (candL a b)) : n.neg ∈ both (candL b a) := by
  obtain ⟨c, hc, hne, hn⟩ := NS.both_of h
  rcases cand_flip hc with h2 | h2
  · obtain ⟨k1, k2⟩ := both_in h2 hne
    rcases hn with rfl | rfl
    · exact k2
    · rw [neg_neg]; exact k1
  · obtain ⟨k1, k2⟩ := both_in h2 (by rw [lng_neg]; exact fun e => hne (neg_O.1 e))
    rw [lng_neg] at k1 k2
    rw [neg_neg] at k2
    rcases hn with rfl | rfl
    · exact k1
    · rw [neg_neg]; exact k2
theorem loK_neg (n : Pt) (P : List Pt) (k : Nat) : loK n.neg P k = -(hiK n P k) := by
  have h := hiK_neg n.neg P k
  rw [neg_neg] at h
  omega
theorem gap_flip (P Q : List Pt) (r s : Int) (n : Pt) : gapZ Q P s r n.neg = gapZ P Q r s n := by
  have hr : room n.neg Q P = room n P Q := by
    unfold room loP hiP
    rw [loK_neg, hiK_neg]
    omega
  have hu : up n.neg = up n := by unfold up; rw [dn_neg, neg_dot2]
  unfold gapZ gap0
  rw [hr, hu, dn_neg]
  omega
theorem best_ge (g : Pt → Int) : ∀ (L : List Pt) (s : Bs), (∀ m h, s = some (m, h) → ∃ n v, bestL g s L = some (n, v) ∧ h ≤ v) ∧ ∀ p ∈ L, ∃ n v, bestL g s L = some (n, v) ∧ g p ≤ v
  | [], s => ⟨fun m h e => ⟨m, h, e, Int.le_refl _⟩, fun p hp => by cases hp⟩
  | p :: r, s => by
    obtain ⟨k1, k2⟩ := best_ge g r (bestS g s p)
    have hb : ∃ m v, bestS g s p = some (m, v) ∧ g p ≤ v ∧ ∀ x h, s = some (x, h) → h ≤ v := by
      unfold bestS
      cases s with
      | none => exact ⟨p, _, rfl, Int.le_refl _, fun x h e => by cases e⟩
      | some y =>
        obtain ⟨m, h⟩ := y
        dsimp only
        split
        · next hl => exact ⟨p, _, rfl, Int.le_refl _, fun x h2 e => by cases e; omega⟩
        · next hl => exact ⟨m, _, rfl, by omega, fun x h2 e => by cases e; exact Int.le_refl _⟩
    obtain ⟨m, v, e, h1, h2⟩ := hb
    obtain ⟨n, v2, e2, h3⟩ := k1 m v e
    have e3 : bestL g s (p :: r) = bestL g (bestS g s p) r := rfl
    refine ⟨fun x h e4 => ⟨n, v2, by rw [e3]; exact e2, by have := h2 x h e4; omega⟩, fun q hq => ?_⟩
    rw [e3]
    rcases List.mem_cons.1 hq with rfl | hq
    · exact ⟨n, v2, e2, by omega⟩
    · exact k2 q hq
theorem flip_le (a b : Cr) : (told a b).2 ≤ (told b a).2 := by
  rcases NS.best_mem (gapZ a.P b.P a.r b.r) (both (candL a b)) none [] (Or.inl rfl) with ⟨h, hn⟩ | ⟨n, hn, h⟩
  · have e : told a b = (⟨0, 0, 1048576⟩, -a.r - b.r) := by unfold told; rw [h]
    have h0 : both (candL b a) = [] := by
      cases hb : both (candL b a) with
      | nil => rfl
      | cons x t =>
        have := both_flip (a := b) (b := a) (n := x) (by rw [hb]; exact List.mem_cons_self)
        rw [hn] at this
        cases this
    have e2 : told b a = (⟨0, 0, 1048576⟩, -b.r - a.r) := by unfold told; rw [h0]; rfl
    rw [e, e2]
    dsimp only
    omega
  · have e : told a b = (n, gapZ a.P b.P a.r b.r n) := by unfold told; rw [h]
    have hn : n ∈ both (candL a b) := by rcases hn with hn | hn; cases hn; exact hn
    obtain ⟨m, v, e2, h2⟩ := (best_ge (gapZ b.P a.P b.r a.r) (both (candL b a)) none).2 _ (both_flip hn)
    have e3 : told b a = (m, v) := by unfold told; rw [e2]
    rw [gap_flip] at h2
    rw [e, e3]
    exact h2
theorem told_flip (a b : Cr) : (told a b).2 = (told b a).2 := Int.le_antisymm (flip_le a b) (flip_le b a)

/-- Moved by whole grains. -/
def by_ (t p : Pt) : Pt := ⟨p.x + t.x, p.y + t.y, p.z + t.z⟩
theorem sub_by (t p q : Pt) : (by_ t q).sub (by_ t p) = q.sub p := by
  unfold by_ Pt.sub
  dsimp only
  congr 1 <;> omega
theorem dot_by (n t p : Pt) : n.dot (by_ t p) = n.dot p + n.dot t := by
  unfold by_ Pt.dot
  dsimp only
  simp only [Int.mul_add]
  omega
theorem pt_by (t : Pt) (P : List Pt) {k : Nat} (h : k < P.length) : pt (P.map (by_ t)) k = by_ t (pt P k) := pt_map h
theorem loK_by (n t : Pt) (P : List Pt) : ∀ k, k < P.length → loK n (P.map (by_ t)) k = loK n P k + n.dot t
  | 0, h => by simp only [loK]; rw [pt_by t P h, dot_by]
  | k + 1, h => by simp only [loK]; rw [pt_by t P h, dot_by, loK_by n t P k (by omega)]; omega
theorem hiK_by (n t : Pt) (P : List Pt) : ∀ k, k < P.length → hiK n (P.map (by_ t)) k = hiK n P k + n.dot t
  | 0, h => by simp only [hiK]; rw [pt_by t P h, dot_by]
  | k + 1, h => by simp only [hiK]; rw [pt_by t P h, dot_by, hiK_by n t P k (by omega)]; omega
theorem told_by (t : Pt) (a b : Cr) (ha : 0 < a.P.length) (hb : 0 < b.P.length) : told ⟨a.P.map (by_ t), a.A, a.E, a.r⟩ ⟨b.P.map (by_ t), b.A, b.E, b.r⟩ = told a b := by
  have hr : ∀ n, room n (a.P.map (by_ t)) (b.P.map (by_ t)) = room n a.P b.P := fun n => by
    unfold room loP hiP
    rw [List.length_map, List.length_map, loK_by n t b.P _ (by omega), hiK_by n t a.P _ (by omega)]
    omega
  have hg : gapZ (a.P.map (by_ t)) (b.P.map (by_ t)) a.r b.r = gapZ a.P b.P a.r b.r := by
    funext n
    unfold gapZ gap0
    rw [hr]
  have hw : ∀ EE, wayL (a.P.map (by_ t)) (b.P.map (by_ t)) EE = wayL a.P b.P EE := fun EE => by
    unfold wayL
    rw [List.length_map, List.length_map]
    split
    · rfl
    · rw [List.flatMap_map]
      congr 1
      funext p
      unfold wayR
      rw [List.flatMap_map]
      congr 1
      funext q
      unfold wayG wayD
      rw [sub_by]
  have hc : candL ⟨a.P.map (by_ t), a.A, a.E, a.r⟩ ⟨b.P.map (by_ t), b.A, b.E, b.r⟩ = candL a b := by
    unfold candL
    dsimp only
    rw [hw]
  unfold told
  rw [hc]
  dsimp only
  rw [hg]
end NM
end Go.Proofs.Ytfalniafkambmaa
namespace Go.Proofs.Ytfalniafkambmaa
open Go.RowKit Go.Shelf
set_option linter.unusedVariables false

theorem plus_by {p q : Pt} (hp : p.inB 8388608 = true) (hq : q.inB 1048576 = true) : p.plus q = NM.by_ q p := by
  rw [Pt.inB_iff] at hp hq
  unfold Pt.plus NM.by_
  rw [IntKind.wrap_i64, IntKind.wrap_i64, IntKind.wrap_i64]
  congr 1 <;> omega
theorem map_by {P : List Pt} {q : Pt} (hP : ∀ p ∈ P, p.inB 8388608 = true) (hq : q.inB 1048576 = true) : P.map (fun p => p.plus q) = P.map (NM.by_ q) :=
  List.map_congr_left fun p hp => plus_by (hP p hp) hq
theorem moved_may20 {a : Cr} {q : Pt} (hNa : mayN a) (hq : q.inB 1048576 = true) : mayC ⟨a.P.map (fun p => p.plus q), a.A, a.E, a.r⟩ = true := by
  have h := hNa.1
  unfold mayC at h ⊢
  simp only [Bool.and_eq_true, decide_eq_true_eq, List.all_eq_true, List.length_map] at h ⊢
  refine ⟨⟨⟨⟨h.1.1.1.1, fun p9 hp9 => ?_⟩, h.1.1.2⟩, h.1.2⟩, h.2⟩
  obtain ⟨p, hp, rfl⟩ := List.mem_map.1 hp9
  have h1 := hNa.2.2 p hp
  rw [Pt.inB_iff] at h1 hq ⊢
  unfold Pt.plus
  dsimp only
  rw [IntKind.wrap_i64, IntKind.wrap_i64, IntKind.wrap_i64]
  omega
theorem told_moved {a b : Cr} {q : Pt} (hNa : mayN a) (hNb : mayN b) (hq : q.inB 1048576 = true) : told ⟨a.P.map (fun p => p.plus q), a.A, a.E, a.r⟩ ⟨b.P.map (fun p => p.plus q), b.A, b.E, b.r⟩ = told a b := by
  rw [map_by hNa.2.2 hq, map_by hNb.2.2 hq]
  exact NM.told_by q a b (may_facts hNa.1).1 (may_facts hNb.1).1
theorem arr4m {cs : Array Value} (h : cs.size = 4) : ∃ a b c d, cs = #[a, b, c, d] := by
  obtain ⟨l⟩ := cs
  match l, h with
  | [a, b, c, d], _ => exact ⟨a, b, c, d, rfl⟩
def CoreIs (w : World) (v : Value) (c : Cr) : Prop := ∃ vp va ve, v = .agg #[vp, va, ve, .int .i64 c.r] ∧ Lies w vp c.P ∧ Lies w va c.A ∧ Lies w ve c.E
theorem CoreIs.below {w w' : World} {v : Value} {c : Cr} (h : CoreIs w v c) (hb : Below w.heap.size w w') : CoreIs w' v c := by
  obtain ⟨vp, va, ve, x1, x2, x3, x4⟩ := h
  exact ⟨vp, va, ve, x1, x2.below hb, x3.below hb, x4.below hb⟩
def MwG (W0 : World) (a b : Cr) (fin : Array Value) (γ : Nat → Value) (L : Nat → Bool) (w : World) : Prop :=
  Below W0.heap.size W0 w ∧ (L 2 = true → L 6 = false → CoreIs w (γ 2) a) ∧ (L 5 = true → L 6 = false → CoreIs w (γ 5) b) ∧ RV.Pend W0 40 10 11 fin γ L w
section
variable {W0 w w' : World} {a b : Cr} {fin : Array Value} {γ : Nat → Value} {L : Nat → Bool}
theorem MwG.other (h : MwG W0 a b fin γ L w) {k : Nat} (v : Value) (h2 : 2 ≠ k) (h5 : 5 ≠ k) (h6 : 6 ≠ k) (h8 : 10 ≠ k) (h9 : 11 ≠ k) : MwG W0 a b fin (RV.upd γ k v) (more L k) w := by
  refine ⟨h.1, fun e e' => ?_, fun e e' => ?_, h.2.2.2.other v h8 h9⟩
  · rw [RV.more_ne h2] at e; rw [RV.more_ne h6] at e'; rw [RV.upd_ne _ _ h2]
    exact h.2.1 e e'
  · rw [RV.more_ne h5] at e; rw [RV.more_ne h6] at e'; rw [RV.upd_ne _ _ h5]
    exact h.2.2.1 e e'
theorem MwG.below (h : MwG W0 a b fin γ L w) (hb : Below w.heap.size w w') : MwG W0 a b fin γ L w' :=
  ⟨b_step h.1 hb, fun e e' => (h.2.1 e e').below hb, fun e e' => (h.2.2.1 e e').below hb, h.2.2.2.below hb⟩
theorem MwG.got2 (h : MwG W0 a b fin γ L w) {vp va ve : Value} (hT : Three w w' vp va ve a.P a.A a.E) : MwG W0 a b fin (RV.upd γ 2 (.agg #[vp, va, ve, .int .i64 a.r])) (more L 2) w' := by
  have h9 := h.below hT.below
  refine ⟨h9.1, fun _ _ => ⟨vp, va, ve, by rw [RV.upd_self], Lies.of_row hT.rp, Lies.of_row hT.ra, Lies.of_row hT.re⟩, fun e e' => ?_, h9.2.2.2.other _ (by decide) (by decide)⟩
  rw [RV.more_ne (by decide)] at e; rw [RV.more_ne (by decide)] at e'; rw [RV.upd_ne _ _ (by decide)]
  exact h9.2.2.1 e e'
theorem MwG.got5 (h : MwG W0 a b fin γ L w) {vp va ve : Value} (hT : Three w w' vp va ve b.P b.A b.E) : MwG W0 a b fin (RV.upd γ 5 (.agg #[vp, va, ve, .int .i64 b.r])) (more L 5) w' := by
  have h9 := h.below hT.below
  refine ⟨h9.1, fun e e' => ?_, fun _ _ => ⟨vp, va, ve, by rw [RV.upd_self], Lies.of_row hT.rp, Lies.of_row hT.ra, Lies.of_row hT.re⟩, h9.2.2.2.other _ (by decide) (by decide)⟩
  rw [RV.more_ne (by decide)] at e; rw [RV.more_ne (by decide)] at e'; rw [RV.upd_ne _ _ (by decide)]
  exact h9.2.1 e e'
theorem MwG.told (h : MwG W0 a b fin γ L w) (hb : Below w.heap.size w w') (v : Value) : MwG W0 a b fin (RV.upd γ 6 v) (more L 6) w' := by
  have h9 := h.below hb
  exact ⟨h9.1, (fun _ e => by rw [RV.more_self] at e; cases e), (fun _ e => by rw [RV.more_self] at e; cases e), h9.2.2.2.other _ (by decide) (by decide)⟩
theorem MwG.made (h : MwG W0 a b fin γ L w) (h9 : L 11 = false) (hf : fin.size = 4) : MwG W0 a b fin (RV.upd γ 10 (.pointer (some ⟨w.heap.size, 0, none⟩))) (more L 10) (w.alloc (.cells #[.int .i64 0, .int .i64 0, .int .i64 0, .int .i64 0] 40)) := by
  have h8 := h.below (n_after w (.cells #[.int .i64 0, .int .i64 0, .int .i64 0, .int .i64 0] 40))
  refine ⟨h8.1, fun e e' => ?_, fun e e' => ?_, RV.Pend.made _ (by rw [hf]; rfl) h.1.size h9 (by decide)⟩
  · rw [RV.more_ne (by decide)] at e; rw [RV.more_ne (by decide)] at e'; rw [RV.upd_ne _ _ (by decide)]
    exact h8.2.1 e e'
  · rw [RV.more_ne (by decide)] at e; rw [RV.more_ne (by decide)] at e'; rw [RV.upd_ne _ _ (by decide)]
    exact h8.2.2.1 e e'
theorem MwG.fill {q0 q1 q2 q3 : Value} (h : MwG W0 a b #[q0, q1, q2, q3] γ L w) (h6 : L 6 = true) {p : Nat} {cs : Array Value} (e8 : γ 10 = .pointer (some ⟨p, 0, none⟩)) (hb : W0.heap.size ≤ p) (hx : w.heap[p]? = some (.cells cs 40 (0, 0))) (hcs : cs.size = 4) (v : Value) :
    MwG W0 a b #[q0, q1, q2, q3] (RV.upd γ 11 v) (more L 11) (set4 w p q0 q1 q2 q3) := by
  obtain ⟨u0, u1, u2, u3, rfl⟩ := arr4m hcs
  refine ⟨set4_below h.1 hb _ _ _ _, (fun _ e => by rw [RV.more_ne (by decide), h6] at e; cases e), (fun _ e => by rw [RV.more_ne (by decide), h6] at e; cases e), RV.Pend.filled e8 hb ?_ (by decide) v⟩
  have y0 := Go.heap_setCell_same w p 0 _ _ q0 hx
  have y1 := Go.heap_setCell_same _ p 1 _ _ q1 y0
  have y2 := Go.heap_setCell_same _ p 2 _ _ q2 y1
  have y3 := Go.heap_setCell_same _ p 3 _ _ q3 y2
  simpa [set4] using y3
end
end Go.Proofs.Ytfalniafkambmaa
