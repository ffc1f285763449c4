/- Package pose: a core that is moved. -/
import Derived.Test.YthcdpngkoejgpaaPsJa
namespace Go.Proofs.Ythcdpngkoejgpaa
open Go.RowKit Go.Shelf
set_option linter.unusedVariables false

set_option maxHeartbeats 1000000 in
theorem same_any (p : Pt) (w : World) : Calls Try.prog 47 #[p.v] w fun e W => e = .returned p.v ∧ Below w.heap.size w W := by
  obtain ⟨x, y, z⟩ := p
  unfold Pt.v
  dsimp only
  go_enter Try.func47, Try.ntmps47
  go_wp2
  exact bodyPost_ret (v := .agg #[.int .i64 x, .int .i64 y, .int .i64 z]) (by simp [results, Try.results47, go_sem]) rfl ⟨rfl, b_step (n_after _ _) (n_after _ _)⟩
set_option maxHeartbeats 1000000 in
theorem move1_any (p q : Pt) (mb : Nat) (w : World) (hc : Cells w mb [.int .i64 q.x, .int .i64 q.y, .int .i64 q.z]) : Calls Try.prog 43 #[p.v, .pointer (some ⟨mb, 0, none⟩)] w fun e W => e = .returned (p.plus q).v ∧ Below w.heap.size w W := by
  have HP : Hid _ := fun w' => pplus_any p q w'
  generalize p.plus q = r at *
  obtain ⟨x, y, z⟩ := p
  obtain ⟨x1, y1, z1⟩ := q
  obtain ⟨x2, y2, z2⟩ := r
  unfold Pt.v at *
  dsimp only at *
  have b9 := b_step (n_after w (.cells #[.int .i64 x, .int .i64 y, .int .i64 z] 26)) (n_after _ (.cells #[.int .i64 0, .int .i64 0, .int .i64 0] 26))
  have hl : mb < w.heap.size := Cells.lt hc
  have c0 := (Cells.step hc b9 0 _ rfl).1
  have c1 := (Cells.step hc b9 1 _ rfl).1
  have c2 := (Cells.step hc b9 2 _ rfl).1
  have BO : Hid (Box3 ((w.alloc (.cells #[.int .i64 x, .int .i64 y, .int .i64 z] 26)).alloc (.cells #[.int .i64 0, .int .i64 0, .int .i64 0] 26)) (w.heap.size + 1) Pt.O) := by show Box3 _ _ _; have := Box3.new (w.alloc (.cells #[.int .i64 x, .int .i64 y, .int .i64 z] 26)) 0 0 0 26; rwa [World.size_alloc] at this
  have hB : Hid _ := b9
  clear hc b9
  go_enter Try.func43, Try.ntmps43
  go_wp2_with (fail)
  refine Calls.mono (HP.out _) ?_
  rintro e V ⟨rfl, hb⟩
  obtain ⟨d0, d1, d2, f0, f1, f2⟩ := BO.out.step hb
  simp only [Pt.O] at d0 d1 d2
  have hE : Hid _ := b_step hB.out hb
  clear c0 c1 c2 hb HP
  go_wp2_with (fail)
  exact bodyPost_ret (v := .agg #[.int .i64 x2, .int .i64 y2, .int .i64 z2]) (by simp [results, Try.results43, go_sem, d0, d1, d2]) rfl ⟨rfl, set3_below hE.out (by omega) x2 y2 z2⟩
set_option maxHeartbeats 1000000 in
/-- A list's points, each as a function that touches nothing has it. -/
theorem gather_plain (gf b : Nat) (cs : Array Value) (f : Pt → Pt) (P : List Pt) (o : Option Addr) (cap : Nat) (w : World) (St : World → Prop) (hst : St w) (hSt : ∀ A B r2, St A → A.grownBy B r2 → (∀ r, r2 = some r → w.heap.size ≤ r) → St B) (hSk : ∀ A B, St A → KeepO (fun x => x < w.heap.size) A B → St B) (hv : Lies w (.slice o P.length cap) P)
    (eg : ∀ args w, (callFunc gf args).run Try.prog w = .ok (.enter gf args) w) (hf : ∀ (p : Pt) V, St V → Calls Try.prog gf (#[].push p.v ++ cs) V fun e V' => e = .returned (f p).v ∧ Below V.heap.size V V')
    (cp : w.cell? ⟨b, 0, none⟩ = some (.slice o P.length cap)) (cf : w.cell? ⟨b + 1, 0, none⟩ = some (.func (.func gf) #[] cs)) (hN : P.length < 1099511627776) :
    Calls Try.prog 45 #[.func (.func 78) #[] #[.pointer (some ⟨b, 0, none⟩), .pointer (some ⟨b + 1, 0, none⟩)]] w fun e W => ∃ u, e = .returned u ∧ W.ownsRow w.heap.size 26 3 u (P.map f).length (fl3 (P.map f)) ∧ Below w.heap.size w W := by
  refine Calls.mono (gathered_any 78 #[.pointer (some ⟨b, 0, none⟩), .pointer (some ⟨b + 1, 0, none⟩)] (fun k => f (pt P k)) none (fun x => x < w.heap.size) (fun _ X => St X) P.length w (enters_of Try.func78 (by kernel_rfl) rfl)
    (fun W hb => each_tells_pt 8 b (b + 1) P o cap gf #[] cs (fun k => (f (pt P k)).v) none (fun x => x < w.heap.size) (fun _ X => St X) W
      eg (hv.below hb) (c_after hb cp) (c_after hb cf) (fun q e h0 => ?_) ⟨World.block_lt_of_cell? _ _ cf, by simp⟩ (fun x hx => Nat.lt_of_lt_of_le hx hb.size)
      (fun X hX => hSt _ _ none (hSt _ _ none hst (below_grown hb none) (fun r e => by cases e)) (below_grown hX none) (fun r e => by cases e)) (fun k X Y hs hk => hSk _ _ hs hk)
      (fun k X hk hs => (hf (pt P k) X hs).mono fun e X' h => ⟨h.1, below_grown h.2 none, hSt _ _ none hs (below_grown h.2 none) (fun r e => by cases e)⟩))
    (fun x hx => hx) (fun r e => by cases e) (fun k X Y r2 hs hg hr => hSt _ _ _ hs hg hr) hN) ?_
  · subst e
    exact ⟨hv.lt h0, by simp⟩
  · rintro e W ⟨u, rfl, h3, h4, h5⟩
    rw [firsts_map] at h3
    exact ⟨u, rfl, by rw [List.length_map]; exact h3, ⟨h4.os, h4.tape, h4.output, h4.size, fun k hk => h4.block k hk (by simp)⟩⟩

/-- While a core is moved. -/
structure MG (w0 V : World) (cb mb ob : Nat) (pv av ev : Value) (r : Int) (q : Pt) (P A E : List Pt) (g3 g4 g7 g8 g11 g12 g15 : Value) (l3 l4 l7 l8 l11 l12 l15 l16 : Bool) (w : World) : Prop where
  be : Below w0.heap.size w0 w
  sz : V.heap.size ≤ w.heap.size
  cr : Cells w cb [pv, av, ev, .int .i64 r]
  mr : Cells w mb [.int .i64 q.x, .int .i64 q.y, .int .i64 q.z]
  co : Cells w ob (cond l16 [g4, g8, g12, .int .i64 r] [.slice none 0 0, .slice none 0 0, .slice none 0 0, .int .i64 0])
  x3 : l3 = true → ∃ b, g3 = .func (.func 78) #[] #[.pointer (some ⟨b, 0, none⟩), .pointer (some ⟨b + 1, 0, none⟩)] ∧ V.heap.size ≤ b ∧ w.cell? ⟨b, 0, none⟩ = some pv ∧ w.cell? ⟨b + 1, 0, none⟩ = some (.func (.func 43) #[] #[.pointer (some ⟨mb, 0, none⟩)])
  x7 : l7 = true → ∃ b, g7 = .func (.func 78) #[] #[.pointer (some ⟨b, 0, none⟩), .pointer (some ⟨b + 1, 0, none⟩)] ∧ V.heap.size ≤ b ∧ w.cell? ⟨b, 0, none⟩ = some av ∧ w.cell? ⟨b + 1, 0, none⟩ = some (.func (.func 47) #[] #[])
  x11 : l11 = true → ∃ b, g11 = .func (.func 78) #[] #[.pointer (some ⟨b, 0, none⟩), .pointer (some ⟨b + 1, 0, none⟩)] ∧ V.heap.size ≤ b ∧ w.cell? ⟨b, 0, none⟩ = some ev ∧ w.cell? ⟨b + 1, 0, none⟩ = some (.func (.func 47) #[] #[])
  o4 : l4 = true → w.ownsRow V.heap.size 26 3 g4 P.length (fl3 P)
  o8 : l8 = true → w.ownsRow V.heap.size 26 3 g8 A.length (fl3 A)
  o12 : l12 = true → w.ownsRow V.heap.size 26 3 g12 E.length (fl3 E)
  s48 : l4 = true → l8 = true → ∀ k, g4.ownBlock = some k → g8.ownBlock ≠ some k
  s42 : l4 = true → l12 = true → ∀ k, g4.ownBlock = some k → g12.ownBlock ≠ some k
  s82 : l8 = true → l12 = true → ∀ k, g8.ownBlock = some k → g12.ownBlock ≠ some k
  bd : l15 = true → g15 = .agg #[g4, g8, g12, .int .i64 r]
section
variable {w0 V : World} {cb mb ob : Nat} {pv av ev : Value} {r : Int} {q : Pt} {P A E : List Pt} {g3 g4 g7 g8 g11 g12 g15 : Value} {l3 l4 l7 l8 l11 l12 l15 l16 : Bool} {w w' : World}
theorem MG.step (h : MG w0 V cb mb ob pv av ev r q P A E g3 g4 g7 g8 g11 g12 g15 l3 l4 l7 l8 l11 l12 l15 l16 w) (hb : Below w.heap.size w w') : MG w0 V cb mb ob pv av ev r q P A E g3 g4 g7 g8 g11 g12 g15 l3 l4 l7 l8 l11 l12 l15 l16 w' := by
  refine ⟨b_step h.be hb, Nat.le_trans h.sz hb.size, h.cr.step hb, h.mr.step hb, h.co.step hb, fun e => ?_, fun e => ?_, fun e => ?_, fun e => own_below (h.o4 e) hb, fun e => own_below (h.o8 e) hb, fun e => own_below (h.o12 e) hb, h.s48, h.s42, h.s82, h.bd⟩
  · obtain ⟨b, h1, h2, h3, h4⟩ := h.x3 e; exact ⟨b, h1, h2, c_after hb h3, c_after hb h4⟩
  · obtain ⟨b, h1, h2, h3, h4⟩ := h.x7 e; exact ⟨b, h1, h2, c_after hb h3, c_after hb h4⟩
  · obtain ⟨b, h1, h2, h3, h4⟩ := h.x11 e; exact ⟨b, h1, h2, c_after hb h3, c_after hb h4⟩
theorem MG.each3 (h : MG w0 V cb mb ob pv av ev r q P A E g3 g4 g7 g8 g11 g12 g15 l3 l4 l7 l8 l11 l12 l15 l16 w) (hb : Below w.heap.size w w') {b : Nat} (hV : V.heap.size ≤ b) (h1 : w'.cell? ⟨b, 0, none⟩ = some pv) (h2 : w'.cell? ⟨b + 1, 0, none⟩ = some (.func (.func 43) #[] #[.pointer (some ⟨mb, 0, none⟩)])) :
    MG w0 V cb mb ob pv av ev r q P A E (.func (.func 78) #[] #[.pointer (some ⟨b, 0, none⟩), .pointer (some ⟨b + 1, 0, none⟩)]) g4 g7 g8 g11 g12 g15 true l4 l7 l8 l11 l12 l15 l16 w' := by
  have h9 := h.step hb
  exact ⟨h9.be, h9.sz, h9.cr, h9.mr, h9.co, fun _ => ⟨b, rfl, hV, h1, h2⟩, h9.x7, h9.x11, h9.o4, h9.o8, h9.o12, h9.s48, h9.s42, h9.s82, h9.bd⟩
theorem MG.each7 (h : MG w0 V cb mb ob pv av ev r q P A E g3 g4 g7 g8 g11 g12 g15 l3 l4 l7 l8 l11 l12 l15 l16 w) (hb : Below w.heap.size w w') {b : Nat} (hV : V.heap.size ≤ b) (h1 : w'.cell? ⟨b, 0, none⟩ = some av) (h2 : w'.cell? ⟨b + 1, 0, none⟩ = some (.func (.func 47) #[] #[])) :
    MG w0 V cb mb ob pv av ev r q P A E g3 g4 (.func (.func 78) #[] #[.pointer (some ⟨b, 0, none⟩), .pointer (some ⟨b + 1, 0, none⟩)]) g8 g11 g12 g15 l3 l4 true l8 l11 l12 l15 l16 w' := by
  have h9 := h.step hb
  exact ⟨h9.be, h9.sz, h9.cr, h9.mr, h9.co, h9.x3, fun _ => ⟨b, rfl, hV, h1, h2⟩, h9.x11, h9.o4, h9.o8, h9.o12, h9.s48, h9.s42, h9.s82, h9.bd⟩
theorem MG.each11 (h : MG w0 V cb mb ob pv av ev r q P A E g3 g4 g7 g8 g11 g12 g15 l3 l4 l7 l8 l11 l12 l15 l16 w) (hb : Below w.heap.size w w') {b : Nat} (hV : V.heap.size ≤ b) (h1 : w'.cell? ⟨b, 0, none⟩ = some ev) (h2 : w'.cell? ⟨b + 1, 0, none⟩ = some (.func (.func 47) #[] #[])) :
    MG w0 V cb mb ob pv av ev r q P A E g3 g4 g7 g8 (.func (.func 78) #[] #[.pointer (some ⟨b, 0, none⟩), .pointer (some ⟨b + 1, 0, none⟩)]) g12 g15 l3 l4 l7 l8 true l12 l15 l16 w' := by
  have h9 := h.step hb
  exact ⟨h9.be, h9.sz, h9.cr, h9.mr, h9.co, h9.x3, h9.x7, fun _ => ⟨b, rfl, hV, h1, h2⟩, h9.o4, h9.o8, h9.o12, h9.s48, h9.s42, h9.s82, h9.bd⟩
theorem MG.got4 (h : MG w0 V cb mb ob pv av ev r q P A E g3 g4 g7 g8 g11 g12 g15 l3 l4 l7 l8 l11 l12 l15 l16 w) (hb : Below w.heap.size w w') {u : Value} (hu : w'.ownsRow w.heap.size 26 3 u P.length (fl3 P)) (h15 : l15 = false) (h16 : l16 = false) :
    MG w0 V cb mb ob pv av ev r q P A E g3 u g7 g8 g11 g12 g15 l3 true l7 l8 l11 l12 l15 l16 w' := by
  have h9 := h.step hb
  refine ⟨h9.be, h9.sz, h9.cr, h9.mr, by have := h9.co; rw [h16] at this ⊢; exact this, h9.x3, h9.x7, h9.x11, fun _ => own_le hu h.sz, h9.o8, h9.o12, fun _ e k e1 e2 => apart_new (b' := 0) (h.o8 e) hu k e2 e1, fun _ e k e1 e2 => apart_new (b' := 0) (h.o12 e) hu k e2 e1, h9.s82, fun e => (by rw [h15] at e; cases e)⟩
theorem MG.got8 (h : MG w0 V cb mb ob pv av ev r q P A E g3 g4 g7 g8 g11 g12 g15 l3 l4 l7 l8 l11 l12 l15 l16 w) (hb : Below w.heap.size w w') {u : Value} (hu : w'.ownsRow w.heap.size 26 3 u A.length (fl3 A)) (h15 : l15 = false) (h16 : l16 = false) :
    MG w0 V cb mb ob pv av ev r q P A E g3 g4 g7 u g11 g12 g15 l3 l4 l7 true l11 l12 l15 l16 w' := by
  have h9 := h.step hb
  refine ⟨h9.be, h9.sz, h9.cr, h9.mr, by have := h9.co; rw [h16] at this ⊢; exact this, h9.x3, h9.x7, h9.x11, h9.o4, fun _ => own_le hu h.sz, h9.o12, fun e _ k e1 e2 => apart_new (b' := 0) (h.o4 e) hu k e1 e2, h9.s42, fun _ e k e1 e2 => apart_new (b' := 0) (h.o12 e) hu k e2 e1, fun e => (by rw [h15] at e; cases e)⟩
theorem MG.got12 (h : MG w0 V cb mb ob pv av ev r q P A E g3 g4 g7 g8 g11 g12 g15 l3 l4 l7 l8 l11 l12 l15 l16 w) (hb : Below w.heap.size w w') {u : Value} (hu : w'.ownsRow w.heap.size 26 3 u E.length (fl3 E)) (h15 : l15 = false) (h16 : l16 = false) :
    MG w0 V cb mb ob pv av ev r q P A E g3 g4 g7 g8 g11 u g15 l3 l4 l7 l8 l11 true l15 l16 w' := by
  have h9 := h.step hb
  refine ⟨h9.be, h9.sz, h9.cr, h9.mr, by have := h9.co; rw [h16] at this ⊢; exact this, h9.x3, h9.x7, h9.x11, h9.o4, h9.o8, fun _ => own_le hu h.sz, h9.s48, fun e _ k e1 e2 => apart_new (b' := 0) (h.o4 e) hu k e1 e2, fun e _ k e1 e2 => apart_new (b' := 0) (h.o8 e) hu k e1 e2, fun e => (by rw [h15] at e; cases e)⟩
theorem MG.built (h : MG w0 V cb mb ob pv av ev r q P A E g3 g4 g7 g8 g11 g12 g15 l3 l4 l7 l8 l11 l12 l15 l16 w) : MG w0 V cb mb ob pv av ev r q P A E g3 g4 g7 g8 g11 g12 (.agg #[g4, g8, g12, .int .i64 r]) l3 l4 l7 l8 l11 l12 true l16 w :=
  ⟨h.be, h.sz, h.cr, h.mr, h.co, h.x3, h.x7, h.x11, h.o4, h.o8, h.o12, h.s48, h.s42, h.s82, fun _ => rfl⟩
theorem MG.fill (h : MG w0 V cb mb ob pv av ev r q P A E g3 g4 g7 g8 g11 g12 g15 l3 true l7 true l11 true l15 false w) (hob : w0.heap.size ≤ ob) (hoV : ob < V.heap.size) (h1 : cb ≠ ob) (h2 : mb ≠ ob) :
    MG w0 V cb mb ob pv av ev r q P A E g3 g4 g7 g8 g11 g12 g15 l3 true l7 true l11 true l15 true (set4 w ob g4 g8 g12 (.int .i64 r)) := by
  have hr : ∀ {u : Value} {n : Nat} {xs : List Value}, w.ownsRow V.heap.size 26 3 u n xs → u.ownBlock ≠ some ob := fun h9 e => by have := (h9.lt ob e).1; omega
  have hx : ∀ {b o : Nat} {v : Value}, V.heap.size ≤ b → w.cell? ⟨b, o, none⟩ = some v → (set4 w ob g4 g8 g12 (.int .i64 r)).cell? ⟨b, o, none⟩ = some v := by
    intro b o v hb hc
    have hne : b ≠ ob := by omega
    have hk : (set4 w ob g4 g8 g12 (.int .i64 r)).heap[b]? = w.heap[b]? := by
      unfold set4
      rw [Below.heap_setCell _ _ _ _ hne, Below.heap_setCell _ _ _ _ hne, Below.heap_setCell _ _ _ _ hne, Below.heap_setCell _ _ _ _ hne]
    exact (World.cell?_of_block (w := w) (a := ⟨b, o, none⟩) hk).trans hc
  have h4 : ∀ {b : Nat} {vs : List Value}, Cells w b vs → b ≠ ob → Cells (set4 w ob g4 g8 g12 (.int .i64 r)) b vs := fun hc hne => (((hc.apart hne 0 _).apart hne 1 _).apart hne 2 _).apart hne 3 _
  refine ⟨set4_below h.be hob _ _ _ _, by rw [set4_size]; exact h.sz, h4 h.cr h1, h4 h.mr h2, Cells.set4 h.co _ _ _ _, fun e => ?_, fun e => ?_, fun e => ?_, fun _ => own_set4 (h.o4 rfl) (hr (h.o4 rfl)) _ _ _ _, fun _ => own_set4 (h.o8 rfl) (hr (h.o8 rfl)) _ _ _ _, fun _ => own_set4 (h.o12 rfl) (hr (h.o12 rfl)) _ _ _ _, h.s48, h.s42, h.s82, h.bd⟩
  · obtain ⟨b, e1, e2, e3, e4⟩ := h.x3 e; exact ⟨b, e1, e2, hx e2 e3, hx (by omega) e4⟩
  · obtain ⟨b, e1, e2, e3, e4⟩ := h.x7 e; exact ⟨b, e1, e2, hx e2 e3, hx (by omega) e4⟩
  · obtain ⟨b, e1, e2, e3, e4⟩ := h.x11 e; exact ⟨b, e1, e2, hx e2 e3, hx (by omega) e4⟩
end

set_option maxHeartbeats 8000000 in
set_option maxRecDepth 100000 in
theorem moved_any (q : Pt) (Ps As Es : List Pt) (r : Int) (pv av ev : Value) (w0 : World) (hp : Lies w0 pv Ps) (ha : Lies w0 av As) (he : Lies w0 ev Es) (hNPs : Ps.length < 1099511627776) (hNAs : As.length < 1099511627776) (hNEs : Es.length < 1099511627776) :
    Calls Try.prog 19 #[coreV pv av ev r, q.v] w0 fun e W => ∃ vp va ve, e = .returned (.agg #[vp, va, ve, .int .i64 r]) ∧ Three w0 W vp va ve (Ps.map (fun p => p.plus q)) As Es := by
  obtain ⟨Px2, hPx⟩ : ∃ X, Ps.map (fun p => p.plus q) = X := ⟨_, rfl⟩
  rw [hPx]
  have HPx : Hid _ := hPx
  clear hPx
  obtain ⟨opv, cpv, rfl, _⟩ := hp.form
  obtain ⟨oav, cav, rfl, _⟩ := ha.form
  obtain ⟨oev, cev, rfl, _⟩ := he.form
  have HLP : Hid _ := hp
  have HLA : Hid _ := ha
  have HLE : Hid _ := he
  clear hp ha he
  unfold coreV Pt.v
  go_enter Try.func19, Try.ntmps19
  go_upto_region 2 with fail
  obtain ⟨V, hV⟩ : ∃ V : World, V = ((w0.alloc (.cells #[.slice opv Ps.length cpv, .slice oav As.length cav, .slice oev Es.length cev, .int .i64 r] 24)).alloc (.cells #[.int .i64 q.x, .int .i64 q.y, .int .i64 q.z] 26)).alloc (.cells #[.slice none 0 0, .slice none 0 0, .slice none 0 0, .int .i64 0] 24) := ⟨_, rfl⟩
  obtain ⟨cb, hcb⟩ : ∃ b, b = w0.heap.size := ⟨_, rfl⟩
  obtain ⟨mb, hmb⟩ : ∃ b, b = w0.heap.size + 1 := ⟨_, rfl⟩
  obtain ⟨ob, hob'⟩ : ∃ b, b = w0.heap.size + 1 + 1 := ⟨_, rfl⟩
  have hBV : Hid (Below w0.heap.size w0 V) := by show Below _ _ _; rw [hV]; exact b_step (b_step (n_after _ _) (n_after _ _)) (n_after _ _)
  have B1 : Hid (Cells V cb [.slice opv Ps.length cpv, .slice oav As.length cav, .slice oev Es.length cev, .int .i64 r]) := by show Cells _ _ _; rw [hV, hcb]; exact ((Cells.new w0 _ _).step (n_after _ _)).step (n_after _ _)
  have B2 : Hid (Cells V mb [.int .i64 q.x, .int .i64 q.y, .int .i64 q.z]) := by show Cells _ _ _; rw [hV, hmb]; have h9 := (Cells.new (w0.alloc (.cells #[.slice opv Ps.length cpv, .slice oav As.length cav, .slice oev Es.length cev, .int .i64 r] 24)) [.int .i64 q.x, .int .i64 q.y, .int .i64 q.z] 26).step (n_after _ (.cells #[.slice none 0 0, .slice none 0 0, .slice none 0 0, .int .i64 0] 24)); rw [World.size_alloc] at h9; exact h9
  have B3 : Hid (Cells V ob [.slice none 0 0, .slice none 0 0, .slice none 0 0, .int .i64 0]) := by show Cells _ _ _; rw [hV, hob']; have h9 := Cells.new ((w0.alloc (.cells #[.slice opv Ps.length cpv, .slice oav As.length cav, .slice oev Es.length cev, .int .i64 r] 24)).alloc (.cells #[.int .i64 q.x, .int .i64 q.y, .int .i64 q.z] 26)) [.slice none 0 0, .slice none 0 0, .slice none 0 0, .int .i64 0] 24; rw [World.size_alloc, World.size_alloc] at h9; exact h9
  have hVs : V.heap.size = w0.heap.size + 3 := by rw [hV]; simp
  rw [← hV, ← hob', ← hmb, ← hcb]
  have hwV : w0.heap.size ≤ V.heap.size := by omega
  have hob : w0.heap.size ≤ ob := by omega
  have hoV : ob < V.heap.size := by omega
  have hco : cb ≠ ob := by omega
  have hmo : mb ≠ ob := by omega
  clear hV hcb hmb hob' hVs
  refine RV.region_by (fun j v w => match j with | 0 => v = .pointer (some ⟨cb, 0, none⟩) | 1 => v = .slice opv Ps.length cpv | 2 => v = .func (.func 43) #[] #[.pointer (some ⟨mb, 0, none⟩)] | 3 => True | 4 => True | 5 => v = .pointer (some ⟨cb, 1, none⟩) | 6 => v = .slice oav As.length cav | 7 => True | 8 => True | 9 => v = .pointer (some ⟨cb, 2, none⟩) | 10 => v = .slice oev Es.length cev | 11 => True | 12 => True | 13 => v = .pointer (some ⟨cb, 3, none⟩) | 14 => v = .int .i64 r | 15 => True | 16 => True | _ => True) (fun γ L w => MG w0 V cb mb ob (.slice opv Ps.length cpv) (.slice oav As.length cav) (.slice oev Es.length cev) r q Px2 As Es (γ 3) (γ 4) (γ 7) (γ 8) (γ 11) (γ 12) (γ 15) (L 3) (L 4) (L 7) (L 8) (L 11) (L 12) (L 15) (L 16) w) (by kernel_rfl) (by kernel_rfl) (by kernel_rfl) (by kernel_rfl) ?_ ?_ ?_
  · have b9 : Below V.heap.size V V.drew := (Below.refl _ _).drew; exact MG.step (w := V) ⟨hBV.out, Nat.le_refl _, B1.out, B2.out, B3.out, (fun e => by cases e), (fun e => by cases e), (fun e => by cases e), (fun e => by cases e), (fun e => by cases e), (fun e => by cases e), (fun e => by cases e), (fun e => by cases e), (fun e => by cases e), (fun e => by cases e)⟩ b9
  · generalize hD : dstOf _ = D
    generalize hWA : waitsFor _ = WA
    generalize hZ : Act.mk _ _ = Z
    obtain ⟨R, hR⟩ : ∃ R : Nat → Value → World → Prop, R = (fun j v w => match j with | 0 => v = .pointer (some ⟨cb, 0, none⟩) | 1 => v = .slice opv Ps.length cpv | 2 => v = .func (.func 43) #[] #[.pointer (some ⟨mb, 0, none⟩)] | 3 => True | 4 => True | 5 => v = .pointer (some ⟨cb, 1, none⟩) | 6 => v = .slice oav As.length cav | 7 => True | 8 => True | 9 => v = .pointer (some ⟨cb, 2, none⟩) | 10 => v = .slice oev Es.length cev | 11 => True | 12 => True | 13 => v = .pointer (some ⟨cb, 3, none⟩) | 14 => v = .int .i64 r | 15 => True | 16 => True | _ => True) := ⟨_, rfl⟩
    rw [← hR]
    have d0 : D 0 = some 7 := by rw [← hD]; rfl
    have d1 : D 1 = some 8 := by rw [← hD]; rfl
    have d2 : D 2 = some 9 := by rw [← hD]; rfl
    have d3 : D 3 = some 10 := by rw [← hD]; rfl
    have d4 : D 4 = some 11 := by rw [← hD]; rfl
    have d5 : D 5 = some 12 := by rw [← hD]; rfl
    have d6 : D 6 = some 13 := by rw [← hD]; rfl
    have d7 : D 7 = some 14 := by rw [← hD]; rfl
    have d8 : D 8 = some 15 := by rw [← hD]; rfl
    have d9 : D 9 = some 16 := by rw [← hD]; rfl
    have d10 : D 10 = some 17 := by rw [← hD]; rfl
    have d11 : D 11 = some 18 := by rw [← hD]; rfl
    have d12 : D 12 = some 19 := by rw [← hD]; rfl
    have d13 : D 13 = some 20 := by rw [← hD]; rfl
    have d14 : D 14 = some 21 := by rw [← hD]; rfl
    have d15 : D 15 = some 22 := by rw [← hD]; rfl
    have r0 : ∀ v w, R 0 v w = (v = .pointer (some ⟨cb, 0, none⟩)) := fun v w => by rw [hR]; rfl
    have r1 : ∀ v w, R 1 v w = (v = .slice opv Ps.length cpv) := fun v w => by rw [hR]; rfl
    have r2 : ∀ v w, R 2 v w = (v = .func (.func 43) #[] #[.pointer (some ⟨mb, 0, none⟩)]) := fun v w => by rw [hR]; rfl
    have r3 : ∀ v w, R 3 v w = (True) := fun v w => by rw [hR]; rfl
    have r4 : ∀ v w, R 4 v w = (True) := fun v w => by rw [hR]; rfl
    have r5 : ∀ v w, R 5 v w = (v = .pointer (some ⟨cb, 1, none⟩)) := fun v w => by rw [hR]; rfl
    have r6 : ∀ v w, R 6 v w = (v = .slice oav As.length cav) := fun v w => by rw [hR]; rfl
    have r7 : ∀ v w, R 7 v w = (True) := fun v w => by rw [hR]; rfl
    have r8 : ∀ v w, R 8 v w = (True) := fun v w => by rw [hR]; rfl
    have r9 : ∀ v w, R 9 v w = (v = .pointer (some ⟨cb, 2, none⟩)) := fun v w => by rw [hR]; rfl
    have r10 : ∀ v w, R 10 v w = (v = .slice oev Es.length cev) := fun v w => by rw [hR]; rfl
    have r11 : ∀ v w, R 11 v w = (True) := fun v w => by rw [hR]; rfl
    have r12 : ∀ v w, R 12 v w = (True) := fun v w => by rw [hR]; rfl
    have r13 : ∀ v w, R 13 v w = (v = .pointer (some ⟨cb, 3, none⟩)) := fun v w => by rw [hR]; rfl
    have r14 : ∀ v w, R 14 v w = (v = .int .i64 r) := fun v w => by rw [hR]; rfl
    have r15 : ∀ v w, R 15 v w = (True) := fun v w => by rw [hR]; rfl
    have r16 : ∀ v w, R 16 v w = (True) := fun v w => by rw [hR]; rfl
    have E2 : ∀ (γ : Nat → Value) (L : Nat → Bool) (a : Act) (w : World), RV.Held D WA R (fun γ L w => MG w0 V cb mb ob (.slice opv Ps.length cpv) (.slice oav As.length cav) (.slice oev Es.length cev) r q Px2 As Es (γ 3) (γ 4) (γ 7) (γ 8) (γ 11) (γ 12) (γ 15) (L 3) (L 4) (L 7) (L 8) (L 11) (L 12) (L 15) (L 16) w) Z γ L a w → a.tmps[2]? = some (.pointer (some ⟨cb, 0, none⟩)) := fun γ L a w hH => (hH.rest 2 (by rw [← hD]; exact RV.dst_free (by kernel_rfl))).trans (by rw [← hZ]; rfl)
    have E4 : ∀ (γ : Nat → Value) (L : Nat → Bool) (a : Act) (w : World), RV.Held D WA R (fun γ L w => MG w0 V cb mb ob (.slice opv Ps.length cpv) (.slice oav As.length cav) (.slice oev Es.length cev) r q Px2 As Es (γ 3) (γ 4) (γ 7) (γ 8) (γ 11) (γ 12) (γ 15) (L 3) (L 4) (L 7) (L 8) (L 11) (L 12) (L 15) (L 16) w) Z γ L a w → a.tmps[4]? = some (.pointer (some ⟨ob, 0, none⟩)) := fun γ L a w hH => (hH.rest 4 (by rw [← hD]; exact RV.dst_free (by kernel_rfl))).trans (by rw [← hZ]; rfl)
    have E5 : ∀ (γ : Nat → Value) (L : Nat → Bool) (a : Act) (w : World), RV.Held D WA R (fun γ L w => MG w0 V cb mb ob (.slice opv Ps.length cpv) (.slice oav As.length cav) (.slice oev Es.length cev) r q Px2 As Es (γ 3) (γ 4) (γ 7) (γ 8) (γ 11) (γ 12) (γ 15) (L 3) (L 4) (L 7) (L 8) (L 11) (L 12) (L 15) (L 16) w) Z γ L a w → a.tmps[5]? = some (.func (.func 43) #[] #[.pointer (some ⟨mb, 0, none⟩)]) := fun γ L a w hH => (hH.rest 5 (by rw [← hD]; exact RV.dst_free (by kernel_rfl))).trans (by rw [← hZ]; rfl)
    have K : ∀ j v w w', R j v w → R j v w' := by rw [hR]; intro j v w w' h; exact h
    have A_15_4 : WA 15 4 := by rw [← hWA]; exact ⟨_, rfl, ⟨4, .data⟩, by simp, rfl, rfl⟩
    have A_15_8 : WA 15 8 := by rw [← hWA]; exact ⟨_, rfl, ⟨8, .data⟩, by simp, rfl, rfl⟩
    have A_15_12 : WA 15 12 := by rw [← hWA]; exact ⟨_, rfl, ⟨12, .data⟩, by simp, rfl, rfl⟩
    have A_16_15 : WA 16 15 := by rw [← hWA]; exact ⟨_, rfl, ⟨15, .data⟩, by simp, rfl, rfl⟩
    clear hD hWA hZ hR
    refine RV.AllDo.cons 0 (RV.does_pure (fun γ v L w hl h => by rw [RV.upd_ne γ (i := 0) (j := 3) _ (by decide), RV.upd_ne γ (i := 0) (j := 4) _ (by decide), RV.upd_ne γ (i := 0) (j := 7) _ (by decide), RV.upd_ne γ (i := 0) (j := 8) _ (by decide), RV.upd_ne γ (i := 0) (j := 11) _ (by decide), RV.upd_ne γ (i := 0) (j := 12) _ (by decide), RV.upd_ne γ (i := 0) (j := 15) _ (by decide), RV.more_ne (L := L) (i := 0) (j := 3) (by decide), RV.more_ne (L := L) (i := 0) (j := 4) (by decide), RV.more_ne (L := L) (i := 0) (j := 7) (by decide), RV.more_ne (L := L) (i := 0) (j := 8) (by decide), RV.more_ne (L := L) (i := 0) (j := 11) (by decide), RV.more_ne (L := L) (i := 0) (j := 12) (by decide), RV.more_ne (L := L) (i := 0) (j := 15) (by decide), RV.more_ne (L := L) (i := 0) (j := 16) (by decide)]; exact h) (fun γ L a w hH hl hA => by have e0 := E2 γ L a w hH; exact ⟨.pointer (some ⟨cb, 0, none⟩), by simp [execOp, go_sem, e0], (r0 _ _).mpr rfl⟩)) ?_
    refine RV.AllDo.cons 1 (RV.does_pure (fun γ v L w hl h => by rw [RV.upd_ne γ (i := 1) (j := 3) _ (by decide), RV.upd_ne γ (i := 1) (j := 4) _ (by decide), RV.upd_ne γ (i := 1) (j := 7) _ (by decide), RV.upd_ne γ (i := 1) (j := 8) _ (by decide), RV.upd_ne γ (i := 1) (j := 11) _ (by decide), RV.upd_ne γ (i := 1) (j := 12) _ (by decide), RV.upd_ne γ (i := 1) (j := 15) _ (by decide), RV.more_ne (L := L) (i := 1) (j := 3) (by decide), RV.more_ne (L := L) (i := 1) (j := 4) (by decide), RV.more_ne (L := L) (i := 1) (j := 7) (by decide), RV.more_ne (L := L) (i := 1) (j := 8) (by decide), RV.more_ne (L := L) (i := 1) (j := 11) (by decide), RV.more_ne (L := L) (i := 1) (j := 12) (by decide), RV.more_ne (L := L) (i := 1) (j := 15) (by decide), RV.more_ne (L := L) (i := 1) (j := 16) (by decide)]; exact h) (fun γ L a w hH hl hA => by have l0 : L 0 = true := hA ⟨0, .data⟩ (by simp) rfl; have e0 := hH.slot 0 7 d0 l0; have g0 := hH.holds 0 l0; rw [r0] at g0; rw [g0] at e0; have wz9 := (hH.glob.cr 0 _ rfl).1; exact ⟨.slice opv Ps.length cpv, by simp [execOp, go_sem, e0, wz9], (r1 _ _).mpr rfl⟩)) ?_
    refine RV.AllDo.cons 2 (RV.does_pure (fun γ v L w hl h => by rw [RV.upd_ne γ (i := 2) (j := 3) _ (by decide), RV.upd_ne γ (i := 2) (j := 4) _ (by decide), RV.upd_ne γ (i := 2) (j := 7) _ (by decide), RV.upd_ne γ (i := 2) (j := 8) _ (by decide), RV.upd_ne γ (i := 2) (j := 11) _ (by decide), RV.upd_ne γ (i := 2) (j := 12) _ (by decide), RV.upd_ne γ (i := 2) (j := 15) _ (by decide), RV.more_ne (L := L) (i := 2) (j := 3) (by decide), RV.more_ne (L := L) (i := 2) (j := 4) (by decide), RV.more_ne (L := L) (i := 2) (j := 7) (by decide), RV.more_ne (L := L) (i := 2) (j := 8) (by decide), RV.more_ne (L := L) (i := 2) (j := 11) (by decide), RV.more_ne (L := L) (i := 2) (j := 12) (by decide), RV.more_ne (L := L) (i := 2) (j := 15) (by decide), RV.more_ne (L := L) (i := 2) (j := 16) (by decide)]; exact h) (fun γ L a w hH hl hA => by have e0 := E5 γ L a w hH; exact ⟨.func (.func 43) #[] #[.pointer (some ⟨mb, 0, none⟩)], by simp [execOp, go_sem, e0], (r2 _ _).mpr rfl⟩)) ?_
    refine RV.AllDo.cons 3 (RV.does_call (fun γ L a w hH hl hA => by have l0 : L 1 = true := hA ⟨1, .data⟩ (by simp) rfl; have e0 := hH.slot 1 8 d1 l0; have g0 := hH.holds 1 l0; rw [r1] at g0; rw [g0] at e0; have l1 : L 2 = true := hA ⟨2, .data⟩ (by simp) rfl; have e1 := hH.slot 2 9 d2 l1; have g1 := hH.holds 2 l1; rw [r2] at g1; rw [g1] at e1; refine ⟨46, #[.slice opv Ps.length cpv, .func (.func 43) #[] #[.pointer (some ⟨mb, 0, none⟩)]], by simp [go_sem, e0, e1], Calls.mono (each_in_pt _ _ _ _ _ _ w) ?_⟩; rintro e w2 ⟨rfl, rfl⟩; have b9 := b_step (n_after w (.cells #[.slice opv Ps.length cpv] 22)) (n_after _ (.cells #[.func (.func 43) #[] #[.pointer (some ⟨mb, 0, none⟩)]] 56)); refine ⟨_, rfl, (r3 _ _).mpr trivial, fun j v _ h => K j v _ _ h, ?_⟩; rw [RV.upd_ne γ (i := 3) (j := 4) _ (by decide), RV.upd_ne γ (i := 3) (j := 7) _ (by decide), RV.upd_ne γ (i := 3) (j := 8) _ (by decide), RV.upd_ne γ (i := 3) (j := 11) _ (by decide), RV.upd_ne γ (i := 3) (j := 12) _ (by decide), RV.upd_ne γ (i := 3) (j := 15) _ (by decide), RV.more_ne (L := L) (i := 3) (j := 4) (by decide), RV.more_ne (L := L) (i := 3) (j := 7) (by decide), RV.more_ne (L := L) (i := 3) (j := 8) (by decide), RV.more_ne (L := L) (i := 3) (j := 11) (by decide), RV.more_ne (L := L) (i := 3) (j := 12) (by decide), RV.more_ne (L := L) (i := 3) (j := 15) (by decide), RV.more_ne (L := L) (i := 3) (j := 16) (by decide), RV.upd_self, RV.more_self]; exact hH.glob.each3 b9 hH.glob.sz (by simp [go_sem]) (by simp [go_sem]))) ?_
    refine RV.AllDo.cons 4 (RV.does_call (fun γ L a w hH hl hA => by have l0 : L 3 = true := hA ⟨3, .data⟩ (by simp) rfl; have e0 := hH.slot 3 10 d3 l0; have g0 := hH.holds 3 l0; rw [r3] at g0; have h15 : L 15 = false := RV.not_yet hH A_15_4 hl; have h16 : L 16 = false := RV.not_yet hH A_16_15 h15; have hG := hH.glob; obtain ⟨b, hv0, hbV, cp0, cf0⟩ := hG.x3 l0; rw [hv0] at e0; refine ⟨45, #[.func (.func 78) #[] #[.pointer (some ⟨b, 0, none⟩), .pointer (some ⟨b + 1, 0, none⟩)]], by simp [go_sem, e0], Calls.mono (gather_plain 43 b #[.pointer (some ⟨mb, 0, none⟩)] (fun p => p.plus q) Ps opv cpv w (fun X => Cells X mb [.int .i64 q.x, .int .i64 q.y, .int .i64 q.z]) hG.mr (fun A B r2 hs hg hr => Cells.grew hs hg (fun r e => by have h8 := hr r e; have h7 := hG.mr.lt; omega)) (fun A B hs hk => Cells.keepO hs hk hG.mr.lt) (HLP.out.below hG.be) (enters_of Try.func43 (by kernel_rfl) rfl) (fun p X hs => move1_any p q mb X hs) cp0 cf0 hNPs) ?_⟩; rintro e w2 ⟨u, rfl, o9, g9⟩; rw [HPx.out] at o9; refine ⟨_, rfl, (r4 _ _).mpr trivial, fun j v _ h => K j v _ _ h, ?_⟩; rw [RV.upd_ne γ (i := 4) (j := 3) _ (by decide), RV.upd_ne γ (i := 4) (j := 7) _ (by decide), RV.upd_ne γ (i := 4) (j := 8) _ (by decide), RV.upd_ne γ (i := 4) (j := 11) _ (by decide), RV.upd_ne γ (i := 4) (j := 12) _ (by decide), RV.upd_ne γ (i := 4) (j := 15) _ (by decide), RV.more_ne (L := L) (i := 4) (j := 3) (by decide), RV.more_ne (L := L) (i := 4) (j := 7) (by decide), RV.more_ne (L := L) (i := 4) (j := 8) (by decide), RV.more_ne (L := L) (i := 4) (j := 11) (by decide), RV.more_ne (L := L) (i := 4) (j := 12) (by decide), RV.more_ne (L := L) (i := 4) (j := 15) (by decide), RV.more_ne (L := L) (i := 4) (j := 16) (by decide), RV.upd_self, RV.more_self]; exact hG.got4 g9 o9 h15 h16)) ?_
    refine RV.AllDo.cons 5 (RV.does_pure (fun γ v L w hl h => by rw [RV.upd_ne γ (i := 5) (j := 3) _ (by decide), RV.upd_ne γ (i := 5) (j := 4) _ (by decide), RV.upd_ne γ (i := 5) (j := 7) _ (by decide), RV.upd_ne γ (i := 5) (j := 8) _ (by decide), RV.upd_ne γ (i := 5) (j := 11) _ (by decide), RV.upd_ne γ (i := 5) (j := 12) _ (by decide), RV.upd_ne γ (i := 5) (j := 15) _ (by decide), RV.more_ne (L := L) (i := 5) (j := 3) (by decide), RV.more_ne (L := L) (i := 5) (j := 4) (by decide), RV.more_ne (L := L) (i := 5) (j := 7) (by decide), RV.more_ne (L := L) (i := 5) (j := 8) (by decide), RV.more_ne (L := L) (i := 5) (j := 11) (by decide), RV.more_ne (L := L) (i := 5) (j := 12) (by decide), RV.more_ne (L := L) (i := 5) (j := 15) (by decide), RV.more_ne (L := L) (i := 5) (j := 16) (by decide)]; exact h) (fun γ L a w hH hl hA => by have e0 := E2 γ L a w hH; exact ⟨.pointer (some ⟨cb, 1, none⟩), by simp [execOp, go_sem, e0], (r5 _ _).mpr rfl⟩)) ?_
    refine RV.AllDo.cons 6 (RV.does_pure (fun γ v L w hl h => by rw [RV.upd_ne γ (i := 6) (j := 3) _ (by decide), RV.upd_ne γ (i := 6) (j := 4) _ (by decide), RV.upd_ne γ (i := 6) (j := 7) _ (by decide), RV.upd_ne γ (i := 6) (j := 8) _ (by decide), RV.upd_ne γ (i := 6) (j := 11) _ (by decide), RV.upd_ne γ (i := 6) (j := 12) _ (by decide), RV.upd_ne γ (i := 6) (j := 15) _ (by decide), RV.more_ne (L := L) (i := 6) (j := 3) (by decide), RV.more_ne (L := L) (i := 6) (j := 4) (by decide), RV.more_ne (L := L) (i := 6) (j := 7) (by decide), RV.more_ne (L := L) (i := 6) (j := 8) (by decide), RV.more_ne (L := L) (i := 6) (j := 11) (by decide), RV.more_ne (L := L) (i := 6) (j := 12) (by decide), RV.more_ne (L := L) (i := 6) (j := 15) (by decide), RV.more_ne (L := L) (i := 6) (j := 16) (by decide)]; exact h) (fun γ L a w hH hl hA => by have l0 : L 5 = true := hA ⟨5, .data⟩ (by simp) rfl; have e0 := hH.slot 5 12 d5 l0; have g0 := hH.holds 5 l0; rw [r5] at g0; rw [g0] at e0; have wz9 := (hH.glob.cr 1 _ rfl).1; exact ⟨.slice oav As.length cav, by simp [execOp, go_sem, e0, wz9], (r6 _ _).mpr rfl⟩)) ?_
    refine RV.AllDo.cons 7 (RV.does_call (fun γ L a w hH hl hA => by have l0 : L 6 = true := hA ⟨6, .data⟩ (by simp) rfl; have e0 := hH.slot 6 13 d6 l0; have g0 := hH.holds 6 l0; rw [r6] at g0; rw [g0] at e0; refine ⟨46, #[.slice oav As.length cav, .func (.func 47) #[] #[]], by simp [go_sem, e0], Calls.mono (each_in_pt _ _ _ _ _ _ w) ?_⟩; rintro e w2 ⟨rfl, rfl⟩; have b9 := b_step (n_after w (.cells #[.slice oav As.length cav] 22)) (n_after _ (.cells #[.func (.func 47) #[] #[]] 56)); refine ⟨_, rfl, (r7 _ _).mpr trivial, fun j v _ h => K j v _ _ h, ?_⟩; rw [RV.upd_ne γ (i := 7) (j := 3) _ (by decide), RV.upd_ne γ (i := 7) (j := 4) _ (by decide), RV.upd_ne γ (i := 7) (j := 8) _ (by decide), RV.upd_ne γ (i := 7) (j := 11) _ (by decide), RV.upd_ne γ (i := 7) (j := 12) _ (by decide), RV.upd_ne γ (i := 7) (j := 15) _ (by decide), RV.more_ne (L := L) (i := 7) (j := 3) (by decide), RV.more_ne (L := L) (i := 7) (j := 4) (by decide), RV.more_ne (L := L) (i := 7) (j := 8) (by decide), RV.more_ne (L := L) (i := 7) (j := 11) (by decide), RV.more_ne (L := L) (i := 7) (j := 12) (by decide), RV.more_ne (L := L) (i := 7) (j := 15) (by decide), RV.more_ne (L := L) (i := 7) (j := 16) (by decide), RV.upd_self, RV.more_self]; exact hH.glob.each7 b9 hH.glob.sz (by simp [go_sem]) (by simp [go_sem]))) ?_
    refine RV.AllDo.cons 8 (RV.does_call (fun γ L a w hH hl hA => by have l0 : L 7 = true := hA ⟨7, .data⟩ (by simp) rfl; have e0 := hH.slot 7 14 d7 l0; have g0 := hH.holds 7 l0; rw [r7] at g0; have h15 : L 15 = false := RV.not_yet hH A_15_8 hl; have h16 : L 16 = false := RV.not_yet hH A_16_15 h15; have hG := hH.glob; obtain ⟨b, hv0, hbV, cp0, cf0⟩ := hG.x7 l0; rw [hv0] at e0; refine ⟨45, #[.func (.func 78) #[] #[.pointer (some ⟨b, 0, none⟩), .pointer (some ⟨b + 1, 0, none⟩)]], by simp [go_sem, e0], Calls.mono (gather_plain 47 b #[] (fun p => p) As oav cav w (fun _ => True) trivial (fun _ _ _ _ _ _ => trivial) (fun _ _ _ _ => trivial) (HLA.out.below hG.be) (enters_of Try.func47 (by kernel_rfl) rfl) (fun p X hs => same_any p X) cp0 cf0 hNAs) ?_⟩; rintro e w2 ⟨u, rfl, o9, g9⟩; rw [List.map_id'] at o9; refine ⟨_, rfl, (r8 _ _).mpr trivial, fun j v _ h => K j v _ _ h, ?_⟩; rw [RV.upd_ne γ (i := 8) (j := 3) _ (by decide), RV.upd_ne γ (i := 8) (j := 4) _ (by decide), RV.upd_ne γ (i := 8) (j := 7) _ (by decide), RV.upd_ne γ (i := 8) (j := 11) _ (by decide), RV.upd_ne γ (i := 8) (j := 12) _ (by decide), RV.upd_ne γ (i := 8) (j := 15) _ (by decide), RV.more_ne (L := L) (i := 8) (j := 3) (by decide), RV.more_ne (L := L) (i := 8) (j := 4) (by decide), RV.more_ne (L := L) (i := 8) (j := 7) (by decide), RV.more_ne (L := L) (i := 8) (j := 11) (by decide), RV.more_ne (L := L) (i := 8) (j := 12) (by decide), RV.more_ne (L := L) (i := 8) (j := 15) (by decide), RV.more_ne (L := L) (i := 8) (j := 16) (by decide), RV.upd_self, RV.more_self]; exact hG.got8 g9 o9 h15 h16)) ?_
    refine RV.AllDo.cons 9 (RV.does_pure (fun γ v L w hl h => by rw [RV.upd_ne γ (i := 9) (j := 3) _ (by decide), RV.upd_ne γ (i := 9) (j := 4) _ (by decide), RV.upd_ne γ (i := 9) (j := 7) _ (by decide), RV.upd_ne γ (i := 9) (j := 8) _ (by decide), RV.upd_ne γ (i := 9) (j := 11) _ (by decide), RV.upd_ne γ (i := 9) (j := 12) _ (by decide), RV.upd_ne γ (i := 9) (j := 15) _ (by decide), RV.more_ne (L := L) (i := 9) (j := 3) (by decide), RV.more_ne (L := L) (i := 9) (j := 4) (by decide), RV.more_ne (L := L) (i := 9) (j := 7) (by decide), RV.more_ne (L := L) (i := 9) (j := 8) (by decide), RV.more_ne (L := L) (i := 9) (j := 11) (by decide), RV.more_ne (L := L) (i := 9) (j := 12) (by decide), RV.more_ne (L := L) (i := 9) (j := 15) (by decide), RV.more_ne (L := L) (i := 9) (j := 16) (by decide)]; exact h) (fun γ L a w hH hl hA => by have e0 := E2 γ L a w hH; exact ⟨.pointer (some ⟨cb, 2, none⟩), by simp [execOp, go_sem, e0], (r9 _ _).mpr rfl⟩)) ?_
    refine RV.AllDo.cons 10 (RV.does_pure (fun γ v L w hl h => by rw [RV.upd_ne γ (i := 10) (j := 3) _ (by decide), RV.upd_ne γ (i := 10) (j := 4) _ (by decide), RV.upd_ne γ (i := 10) (j := 7) _ (by decide), RV.upd_ne γ (i := 10) (j := 8) _ (by decide), RV.upd_ne γ (i := 10) (j := 11) _ (by decide), RV.upd_ne γ (i := 10) (j := 12) _ (by decide), RV.upd_ne γ (i := 10) (j := 15) _ (by decide), RV.more_ne (L := L) (i := 10) (j := 3) (by decide), RV.more_ne (L := L) (i := 10) (j := 4) (by decide), RV.more_ne (L := L) (i := 10) (j := 7) (by decide), RV.more_ne (L := L) (i := 10) (j := 8) (by decide), RV.more_ne (L := L) (i := 10) (j := 11) (by decide), RV.more_ne (L := L) (i := 10) (j := 12) (by decide), RV.more_ne (L := L) (i := 10) (j := 15) (by decide), RV.more_ne (L := L) (i := 10) (j := 16) (by decide)]; exact h) (fun γ L a w hH hl hA => by have l0 : L 9 = true := hA ⟨9, .data⟩ (by simp) rfl; have e0 := hH.slot 9 16 d9 l0; have g0 := hH.holds 9 l0; rw [r9] at g0; rw [g0] at e0; have wz9 := (hH.glob.cr 2 _ rfl).1; exact ⟨.slice oev Es.length cev, by simp [execOp, go_sem, e0, wz9], (r10 _ _).mpr rfl⟩)) ?_
    refine RV.AllDo.cons 11 (RV.does_call (fun γ L a w hH hl hA => by have l0 : L 10 = true := hA ⟨10, .data⟩ (by simp) rfl; have e0 := hH.slot 10 17 d10 l0; have g0 := hH.holds 10 l0; rw [r10] at g0; rw [g0] at e0; refine ⟨46, #[.slice oev Es.length cev, .func (.func 47) #[] #[]], by simp [go_sem, e0], Calls.mono (each_in_pt _ _ _ _ _ _ w) ?_⟩; rintro e w2 ⟨rfl, rfl⟩; have b9 := b_step (n_after w (.cells #[.slice oev Es.length cev] 22)) (n_after _ (.cells #[.func (.func 47) #[] #[]] 56)); refine ⟨_, rfl, (r11 _ _).mpr trivial, fun j v _ h => K j v _ _ h, ?_⟩; rw [RV.upd_ne γ (i := 11) (j := 3) _ (by decide), RV.upd_ne γ (i := 11) (j := 4) _ (by decide), RV.upd_ne γ (i := 11) (j := 7) _ (by decide), RV.upd_ne γ (i := 11) (j := 8) _ (by decide), RV.upd_ne γ (i := 11) (j := 12) _ (by decide), RV.upd_ne γ (i := 11) (j := 15) _ (by decide), RV.more_ne (L := L) (i := 11) (j := 3) (by decide), RV.more_ne (L := L) (i := 11) (j := 4) (by decide), RV.more_ne (L := L) (i := 11) (j := 7) (by decide), RV.more_ne (L := L) (i := 11) (j := 8) (by decide), RV.more_ne (L := L) (i := 11) (j := 12) (by decide), RV.more_ne (L := L) (i := 11) (j := 15) (by decide), RV.more_ne (L := L) (i := 11) (j := 16) (by decide), RV.upd_self, RV.more_self]; exact hH.glob.each11 b9 hH.glob.sz (by simp [go_sem]) (by simp [go_sem]))) ?_
    refine RV.AllDo.cons 12 (RV.does_call (fun γ L a w hH hl hA => by have l0 : L 11 = true := hA ⟨11, .data⟩ (by simp) rfl; have e0 := hH.slot 11 18 d11 l0; have g0 := hH.holds 11 l0; rw [r11] at g0; have h15 : L 15 = false := RV.not_yet hH A_15_12 hl; have h16 : L 16 = false := RV.not_yet hH A_16_15 h15; have hG := hH.glob; obtain ⟨b, hv0, hbV, cp0, cf0⟩ := hG.x11 l0; rw [hv0] at e0; refine ⟨45, #[.func (.func 78) #[] #[.pointer (some ⟨b, 0, none⟩), .pointer (some ⟨b + 1, 0, none⟩)]], by simp [go_sem, e0], Calls.mono (gather_plain 47 b #[] (fun p => p) Es oev cev w (fun _ => True) trivial (fun _ _ _ _ _ _ => trivial) (fun _ _ _ _ => trivial) (HLE.out.below hG.be) (enters_of Try.func47 (by kernel_rfl) rfl) (fun p X hs => same_any p X) cp0 cf0 hNEs) ?_⟩; rintro e w2 ⟨u, rfl, o9, g9⟩; rw [List.map_id'] at o9; refine ⟨_, rfl, (r12 _ _).mpr trivial, fun j v _ h => K j v _ _ h, ?_⟩; rw [RV.upd_ne γ (i := 12) (j := 3) _ (by decide), RV.upd_ne γ (i := 12) (j := 4) _ (by decide), RV.upd_ne γ (i := 12) (j := 7) _ (by decide), RV.upd_ne γ (i := 12) (j := 8) _ (by decide), RV.upd_ne γ (i := 12) (j := 11) _ (by decide), RV.upd_ne γ (i := 12) (j := 15) _ (by decide), RV.more_ne (L := L) (i := 12) (j := 3) (by decide), RV.more_ne (L := L) (i := 12) (j := 4) (by decide), RV.more_ne (L := L) (i := 12) (j := 7) (by decide), RV.more_ne (L := L) (i := 12) (j := 8) (by decide), RV.more_ne (L := L) (i := 12) (j := 11) (by decide), RV.more_ne (L := L) (i := 12) (j := 15) (by decide), RV.more_ne (L := L) (i := 12) (j := 16) (by decide), RV.upd_self, RV.more_self]; exact hG.got12 g9 o9 h15 h16)) ?_
    refine RV.AllDo.cons 13 (RV.does_pure (fun γ v L w hl h => by rw [RV.upd_ne γ (i := 13) (j := 3) _ (by decide), RV.upd_ne γ (i := 13) (j := 4) _ (by decide), RV.upd_ne γ (i := 13) (j := 7) _ (by decide), RV.upd_ne γ (i := 13) (j := 8) _ (by decide), RV.upd_ne γ (i := 13) (j := 11) _ (by decide), RV.upd_ne γ (i := 13) (j := 12) _ (by decide), RV.upd_ne γ (i := 13) (j := 15) _ (by decide), RV.more_ne (L := L) (i := 13) (j := 3) (by decide), RV.more_ne (L := L) (i := 13) (j := 4) (by decide), RV.more_ne (L := L) (i := 13) (j := 7) (by decide), RV.more_ne (L := L) (i := 13) (j := 8) (by decide), RV.more_ne (L := L) (i := 13) (j := 11) (by decide), RV.more_ne (L := L) (i := 13) (j := 12) (by decide), RV.more_ne (L := L) (i := 13) (j := 15) (by decide), RV.more_ne (L := L) (i := 13) (j := 16) (by decide)]; exact h) (fun γ L a w hH hl hA => by have e0 := E2 γ L a w hH; exact ⟨.pointer (some ⟨cb, 3, none⟩), by simp [execOp, go_sem, e0], (r13 _ _).mpr rfl⟩)) ?_
    refine RV.AllDo.cons 14 (RV.does_pure (fun γ v L w hl h => by rw [RV.upd_ne γ (i := 14) (j := 3) _ (by decide), RV.upd_ne γ (i := 14) (j := 4) _ (by decide), RV.upd_ne γ (i := 14) (j := 7) _ (by decide), RV.upd_ne γ (i := 14) (j := 8) _ (by decide), RV.upd_ne γ (i := 14) (j := 11) _ (by decide), RV.upd_ne γ (i := 14) (j := 12) _ (by decide), RV.upd_ne γ (i := 14) (j := 15) _ (by decide), RV.more_ne (L := L) (i := 14) (j := 3) (by decide), RV.more_ne (L := L) (i := 14) (j := 4) (by decide), RV.more_ne (L := L) (i := 14) (j := 7) (by decide), RV.more_ne (L := L) (i := 14) (j := 8) (by decide), RV.more_ne (L := L) (i := 14) (j := 11) (by decide), RV.more_ne (L := L) (i := 14) (j := 12) (by decide), RV.more_ne (L := L) (i := 14) (j := 15) (by decide), RV.more_ne (L := L) (i := 14) (j := 16) (by decide)]; exact h) (fun γ L a w hH hl hA => by have l0 : L 13 = true := hA ⟨13, .data⟩ (by simp) rfl; have e0 := hH.slot 13 20 d13 l0; have g0 := hH.holds 13 l0; rw [r13] at g0; rw [g0] at e0; have wz9 := (hH.glob.cr 3 _ rfl).1; exact ⟨.int .i64 r, by simp [execOp, go_sem, e0, wz9], (r14 _ _).mpr rfl⟩)) ?_
    refine RV.AllDo.cons 15 (RV.does_step (fun γ L a w hH hl hA => by have l0 : L 4 = true := hA ⟨4, .data⟩ (by simp) rfl; have e0 := hH.slot 4 11 d4 l0; have g0 := hH.holds 4 l0; rw [r4] at g0; have l1 : L 8 = true := hA ⟨8, .data⟩ (by simp) rfl; have e1 := hH.slot 8 15 d8 l1; have g1 := hH.holds 8 l1; rw [r8] at g1; have l2 : L 12 = true := hA ⟨12, .data⟩ (by simp) rfl; have e2 := hH.slot 12 19 d12 l2; have g2 := hH.holds 12 l2; rw [r12] at g2; have l3 : L 14 = true := hA ⟨14, .data⟩ (by simp) rfl; have e3 := hH.slot 14 21 d14 l3; have g3 := hH.holds 14 l3; rw [r14] at g3; rw [g3] at e3; obtain ⟨o5_, c5_, s5_⟩ := rowp_form (hH.glob.o4 l0); obtain ⟨o9_, c9_, s9_⟩ := rowp_form (hH.glob.o8 l1); obtain ⟨o13_, c13_, s13_⟩ := rowp_form (hH.glob.o12 l2); rw [s5_] at e0; rw [s9_] at e1; rw [s13_] at e2; exact ⟨.agg #[γ 4, γ 8, γ 12, .int .i64 r], w, by rw [s5_, s9_, s13_]; simp [execOp, go_sem, e0, e1, e2, e3], (r15 _ _).mpr trivial, fun j v _ h => K j v _ _ h, by rw [RV.upd_ne γ (i := 15) (j := 3) _ (by decide), RV.upd_ne γ (i := 15) (j := 4) _ (by decide), RV.upd_ne γ (i := 15) (j := 7) _ (by decide), RV.upd_ne γ (i := 15) (j := 8) _ (by decide), RV.upd_ne γ (i := 15) (j := 11) _ (by decide), RV.upd_ne γ (i := 15) (j := 12) _ (by decide), RV.more_ne (L := L) (i := 15) (j := 3) (by decide), RV.more_ne (L := L) (i := 15) (j := 4) (by decide), RV.more_ne (L := L) (i := 15) (j := 7) (by decide), RV.more_ne (L := L) (i := 15) (j := 8) (by decide), RV.more_ne (L := L) (i := 15) (j := 11) (by decide), RV.more_ne (L := L) (i := 15) (j := 12) (by decide), RV.more_ne (L := L) (i := 15) (j := 16) (by decide), RV.upd_self, RV.more_self]; exact hH.glob.built⟩)) ?_
    refine RV.AllDo.cons 16 (RV.does_store (fun γ L a w hH hl hA => by have e0 := E4 γ L a w hH; have l1 : L 15 = true := hA ⟨15, .data⟩ (by simp) rfl; have e1 := hH.slot 15 22 d15 l1; have g1 := hH.holds 15 l1; rw [r15] at g1; have m4 : L 4 = true := hH.closed 15 4 A_15_4 l1; have m8 : L 8 = true := hH.closed 15 8 A_15_8 l1; have m12 : L 12 = true := hH.closed 15 12 A_15_12 l1; obtain ⟨o5_, c5_, s5_⟩ := rowp_form (hH.glob.o4 m4); obtain ⟨o9_, c9_, s9_⟩ := rowp_form (hH.glob.o8 m8); obtain ⟨o13_, c13_, s13_⟩ := rowp_form (hH.glob.o12 m12); have hG := hH.glob; rw [m4, m8, m12, hl] at hG; have xb := hG.bd l1; rw [xb, s5_, s9_, s13_] at e1; have q9 := hG.fill hob hoV hco hmo; obtain ⟨wz0, wf0⟩ := hG.co 0 _ rfl; obtain ⟨wz1, wf1⟩ := hG.co 1 _ rfl; obtain ⟨wz2, wf2⟩ := hG.co 2 _ rfl; obtain ⟨wz3, wf3⟩ := hG.co 3 _ rfl; refine ⟨set4 w ob (γ 4) (γ 8) (γ 12) (.int .i64 r), by rw [s5_, s9_, s13_]; simp [execOp, go_sem, e0, e1, set4, wz0, wz1, wz2, wz3, wf0, wf1, wf2, wf3], (r16 _ _).mpr trivial, fun j v _ h => K j v _ _ h, ?_⟩; rw [RV.upd_ne γ (i := 16) (j := 3) _ (by decide), RV.upd_ne γ (i := 16) (j := 4) _ (by decide), RV.upd_ne γ (i := 16) (j := 7) _ (by decide), RV.upd_ne γ (i := 16) (j := 8) _ (by decide), RV.upd_ne γ (i := 16) (j := 11) _ (by decide), RV.upd_ne γ (i := 16) (j := 12) _ (by decide), RV.upd_ne γ (i := 16) (j := 15) _ (by decide), RV.more_ne (L := L) (i := 16) (j := 3) (by decide), RV.more_ne (L := L) (i := 16) (j := 4) (by decide), RV.more_ne (L := L) (i := 16) (j := 7) (by decide), RV.more_ne (L := L) (i := 16) (j := 8) (by decide), RV.more_ne (L := L) (i := 16) (j := 11) (by decide), RV.more_ne (L := L) (i := 16) (j := 12) (by decide), RV.more_ne (L := L) (i := 16) (j := 15) (by decide), RV.more_self, m4, m8, m12]; exact q9)) ?_
    exact RV.AllDo.nil
  · intro γ a5 w5 L9 hL hLo hH
    have ha := RV.held_act hH hL (by kernel_rfl) (by kernel_rfl)
    have hG := hH.glob
    rw [hL 3 (by decide), hL 4 (by decide), hL 7 (by decide), hL 8 (by decide), hL 11 (by decide), hL 12 (by decide), hL 15 (by decide), hL 16 (by decide)] at hG
    rw [ha]
    clear ha hH hL hLo
    simp only [RV.putAll, Act.put, List.setIfInBounds_toArray, List.set_cons_zero, List.set_cons_succ, Nat.zero_add, Nat.reduceAdd]
    obtain ⟨o5_, c5_, s5_⟩ := rowp_form (hG.o4 rfl)
    obtain ⟨o9_, c9_, s9_⟩ := rowp_form (hG.o8 rfl)
    obtain ⟨o13_, c13_, s13_⟩ := rowp_form (hG.o12 rfl)
    have T3 : Hid (Three w0 w5 (γ 4) (γ 8) (γ 12) Px2 As Es) := ⟨own_le (hG.o4 rfl) hwV, own_le (hG.o8 rfl) hwV, own_le (hG.o12 rfl) hwV, hG.s48 rfl rfl, hG.s42 rfl rfl, hG.s82 rfl rfl, hG.be⟩
    have C9 : Hid (Cells w5 ob [γ 4, γ 8, γ 12, .int .i64 r]) := hG.co
    rw [s5_, s9_, s13_] at C9 T3
    clear hG s5_ s9_ s13_
    have k0 := (C9.out 0 _ rfl).1
    have k1 := (C9.out 1 _ rfl).1
    have k2 := (C9.out 2 _ rfl).1
    have k3 := (C9.out 3 _ rfl).1
    go_wp2
    exact bodyPost_ret (v := .agg #[.slice o5_ Px2.length c5_, .slice o9_ As.length c9_, .slice o13_ Es.length c13_, .int .i64 r]) (by simp [results, Try.results19, go_sem, k0, k1, k2, k3]) rfl ⟨_, _, _, rfl, T3.out⟩
end Go.Proofs.Ythcdpngkoejgpaa
