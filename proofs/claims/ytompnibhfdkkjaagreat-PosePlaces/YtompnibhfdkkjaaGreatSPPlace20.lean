/- The document's own Moved; lists that are appended whole; boxes beside a list of one's own. -/
import Derived.Test.YtompnibhfdkkjaaGreatSPPlace18
import Derived.Test.YtompnibhfdkkjaaGreatSPPlace19
import Derived.Laws.OwnMore
import Derived.Maps.AppendAt
namespace Go.Proofs.YtompnibhfdkkjaaGreat
open Go.RowKit Go.Shelf
set_option linter.unusedVariables false

/-- Boxes that stay, and one that is written, all below n0. -/
structure KB (w0 X : World) (n0 : Nat) (bs : List (Nat × List Value)) (b : Nat) (cs : List Value) : Prop where
  below : Below w0.heap.size w0 X
  fix : ∀ p ∈ bs, p.1 < n0 ∧ p.1 ≠ b ∧ Cells X p.1 p.2
  box : Cells X b cs
  lt : b < n0
  ge : w0.heap.size ≤ b
  hn : w0.heap.size ≤ n0
  hx : n0 ≤ X.heap.size
section
variable {w0 X Y : World} {n0 b : Nat} {bs : List (Nat × List Value)} {cs : List Value}
theorem KB.step (h : KB w0 X n0 bs b cs) (hb : Below X.heap.size X Y) : KB w0 Y n0 bs b cs :=
  ⟨b_step h.below hb, fun p hp => ⟨(h.fix p hp).1, (h.fix p hp).2.1, (h.fix p hp).2.2.step hb⟩, h.box.step hb, h.lt, h.ge, h.hn, Nat.le_trans h.hx hb.size⟩
theorem KB.grew (h : KB w0 X n0 bs b cs) {row : Option Nat} (hg : X.grownBy Y row) (hr : ∀ r, row = some r → n0 ≤ r) : KB w0 Y n0 bs b cs := by
  have hB : Below w0.heap.size X Y := ⟨hg.os, hg.tape, hg.output, hg.size, fun k hk => hg.block k (by have := h.hx; have := h.hn; omega) (fun e => by have := hr k e.symm; have := h.hn; omega)⟩
  refine ⟨h.below.trans hB, fun p hp => ⟨(h.fix p hp).1, (h.fix p hp).2.1, (h.fix p hp).2.2.grew hg (fun r e => by have := hr r e; have := (h.fix p hp).1; omega)⟩, h.box.grew hg (fun r e => by have := hr r e; have := h.lt; omega), h.lt, h.ge, h.hn, Nat.le_trans h.hx hg.size⟩
theorem KB.put (h : KB w0 X n0 bs b cs) (k : Nat) (v : Value) (hk : k < cs.length) : KB w0 (X.setCell ⟨b, k, none⟩ v) n0 bs b (cs.set k v) :=
  ⟨h.below.setCell h.ge _, fun p hp => ⟨(h.fix p hp).1, (h.fix p hp).2.1, (h.fix p hp).2.2.apart (h.fix p hp).2.1 _ _⟩, h.box.set k v hk, h.lt, h.ge, h.hn, by simpa [World.setCell] using h.hx⟩
theorem KB.at (h : KB w0 X n0 bs b cs) {c : Nat} {vs : List Value} (hm : (c, vs) ∈ bs) : Cells X c vs := (h.fix _ hm).2.2
end
theorem pts_read {w : World} {g off n c : Nat} {L : List Pt} (h : Lies w (.slice (some ⟨g, off, none⟩) n c) L) : ∀ j u, (fl3 L)[j]? = some u → w.cell? ((⟨g, off, none⟩ : Addr).add j) = some u := by
  intro j u hj
  obtain ⟨o, cap, e, _, _, hc⟩ := h.form
  simp only [Value.slice.injEq] at e
  obtain ⟨rfl, rfl, rfl⟩ := e
  have hl : j < L.length * 3 := by have := (List.getElem?_eq_some_iff.1 hj).1; rwa [fl3_length] at this
  have hi : j / 3 < L.length := by omega
  obtain ⟨g', off', e', x0, x1, x2⟩ := hc (j / 3) hi
  cases e'
  obtain ⟨f0, f1, f2⟩ := fl3_at L (j / 3) hi
  have ej : j = j / 3 * 3 ∨ j = j / 3 * 3 + 1 ∨ j = j / 3 * 3 + 2 := by omega
  have ad : (⟨g, off, none⟩ : Addr).add j = ⟨g, off + j, none⟩ := by unfold Addr.add; split <;> simp_all
  rw [ad]
  rcases ej with e | e | e
  · rw [e] at hj ⊢; rw [f0] at hj; rw [← hj]; exact x0
  · rw [e] at hj ⊢; rw [f1] at hj; rw [← hj]; rw [← Nat.add_assoc]; exact x1
  · rw [e] at hj ⊢; rw [f2] at hj; rw [← hj]; rw [← Nat.add_assoc]; exact x2
theorem none_run {P : Program} {w : World} (base : Nat) (t ty e : TypeId) (i : TypeInfo) (size : Nat) (ht : P.underlying t = some (.slice e)) (hi : P.info? e = some i) (v : Value) (n c : Nat) (xs : List Value) (hown : w.ownsRow base e size v n xs) :
    (Builtin.append_ #[t, t] ty #[v, .slice none 0 c]).run P w = .ok v w := by
  rcases hown.2 with ⟨rfl, rfl⟩ | ⟨g, cap, cur, rfl, _, _, hnc, _⟩
  · simp [Builtin.append_, run_underlying ht, sizeOf, typeInfo, hi, Builtin.lenOf, Builtin.firstCells]
  · simp [Builtin.append_, run_underlying ht, sizeOf, typeInfo, hi, Builtin.lenOf, Builtin.firstCells, hnc, storeCells]
/-- A list is appended whole to one that is one's own. -/
theorem append_lies {w : World} {ops : Array Oper} {rest : List Oper} {o : Oper} {a : Act} {Q : Exit → Act → World → Prop} (hgd : o.guard = none) (s x : Operand)
    (ho : o.op = .call { callee := .builtin .append, args := #[s, x], argTypes := #[22, 22] })
    (base : Nat) (v : Value) (M : List Pt) (hs : a.eval s = v) (hown : w.ownsRow base 31 3 v M.length (fl3 M)) (xv : Value) (L : List Pt) (hx : a.eval x = xv) (hl : Lies w xv L)
    (hN : M.length + L.length < 2199023255552) (hbase : base ≤ w.heap.size)
    (h : ∀ v' w', w'.ownsRow base 31 3 v' (M ++ L).length (fl3 (M ++ L)) → w.grownBy w' v.ownBlock → (v'.ownBlock = v.ownBlock ∨ v'.ownBlock = some w.heap.size) → wpList Tryz.prog ops Q rest (a.put o.dst v') w') :
    wpList Tryz.prog ops Q (o :: rest) a w := by
  obtain ⟨i0, hii, hiz, hisz, hib⟩ := info_parts point_info
  obtain ⟨oo, cap, rfl, hlc, hcm, hc⟩ := hl.form
  rcases Nat.eq_zero_or_pos L.length with h0 | h0
  · have hL : L = [] := List.length_eq_zero_iff.1 h0
    subst hL
    cases oo with
    | none =>
      refine wpList_plain hgd fun K hK => ?_
      have hrun := none_run (P := Tryz.prog) (w := w) base 22 o.type 31 i0 3 Tryz.underlying22 hii v M.length cap (fl3 M) hown
      unfold Oper.wp
      simp [execOp, ho, resolve, invoke, builtin, hs, hx, hrun, Result.andThen]
      refine hK _ _ (h v w ?_ (below_grown (Below.refl _ _) _) (Or.inl rfl))
      rw [List.append_nil]; exact hown
    | some ad =>
      refine wpList_append_own_at w hgd s x _ ho base 31 i0 _ 3 24 Tryz.underlying22 hii hiz hisz hib rfl (by decide) v M.length (fl3 M) hs hown ad 0 cap [] hx rfl (fun j u e => by simp at e) (fun u e => by simp at e) (by unfold maxLen; omega) (by omega) hbase ?_
      intro v' w' r8 g8 _ s8
      refine h v' w' ?_ g8 s8
      rw [List.append_nil]; simpa using r8
  · obtain ⟨g, off, rfl, _⟩ := hc 0 h0
    refine wpList_append_own_at w hgd s x _ ho base 31 i0 _ 3 24 Tryz.underlying22 hii hiz hisz hib rfl (by decide) v M.length (fl3 M) hs hown ⟨g, off, none⟩ L.length cap (fl3 L) hx (fl3_length L) (pts_read hl) (fl3_one _) (by unfold maxLen; omega) (by omega) hbase ?_
    intro v' w' r8 g8 _ s8
    refine h v' w' ?_ g8 s8
    rw [fl3_append, List.length_append]; exact r8
theorem KB.start4 (w0 : World) (l1 l2 l3 l4 : List Value) (t1 t2 t3 t4 : TypeId) :
    KB w0 ((((w0.alloc (.cells l1.toArray t1)).alloc (.cells l2.toArray t2)).alloc (.cells l3.toArray t3)).alloc (.cells l4.toArray t4)) (w0.heap.size + 4) [(w0.heap.size, l1), (w0.heap.size + 1, l2), (w0.heap.size + 1 + 1, l3)] (w0.heap.size + 1 + 1 + 1) l4 := by
  have c1 := (((Cells.new w0 l1 t1).step (n_after _ (.cells l2.toArray t2))).step (n_after _ (.cells l3.toArray t3))).step (n_after _ (.cells l4.toArray t4))
  have c2 := ((Cells.new (w0.alloc (.cells l1.toArray t1)) l2 t2).step (n_after _ (.cells l3.toArray t3))).step (n_after _ (.cells l4.toArray t4))
  have c3 := (Cells.new ((w0.alloc (.cells l1.toArray t1)).alloc (.cells l2.toArray t2)) l3 t3).step (n_after _ (.cells l4.toArray t4))
  have c4 := Cells.new (((w0.alloc (.cells l1.toArray t1)).alloc (.cells l2.toArray t2)).alloc (.cells l3.toArray t3)) l4 t4
  simp only [World.size_alloc] at c2 c3 c4
  refine ⟨b_step (b_step (b_step (n_after _ _) (n_after _ _)) (n_after _ _)) (n_after _ _), fun p hp => ?_, c4, by omega, by omega, by omega, by simp⟩
  simp only [List.mem_cons, List.not_mem_nil, or_false] at hp
  rcases hp with rfl | rfl | rfl
  · exact ⟨by show _ < _; omega, by show _ ≠ _; omega, c1⟩
  · exact ⟨by show _ < _; omega, by show _ ≠ _; omega, c2⟩
  · exact ⟨by show _ < _; omega, by show _ ≠ _; omega, c3⟩
theorem firsts_app (Ls : List Pt) (f : Pt → Pt) (i : Nat) : firsts (fun k => f (pt Ls k)) (i + 1) = firsts (fun k => f (pt Ls k)) i ++ [f (pt Ls i)] := firsts_succ _ _
set_option maxHeartbeats 8000000 in
set_option maxRecDepth 100000 in
theorem rmoved_any (q : Pt) (Ps As Es : List Pt) (r : Int) (pv av ev : Value) (w0 : World) (hp : Lies w0 pv Ps) (ha : Lies w0 av As) (he : Lies w0 ev Es) (hNPs : Ps.length < 1099511627776) (hNAs : As.length < 1099511627776) (hNEs : Es.length < 1099511627776) :
    Calls Tryz.prog 9 #[coreV pv av ev r, q.v] w0 fun e W => ∃ vp va ve, e = .returned (.agg #[vp, va, ve, .int .i64 r]) ∧ Three w0 W vp va ve (Ps.map (fun p => p.plus q)) As Es := by
  obtain ⟨opv, cpv, rfl, hlc, hcm, hcell⟩ := hp.form
  obtain ⟨oav, cav, rfl, hlca, hcma, _⟩ := ha.form
  obtain ⟨oev, cev, rfl, hlce, hcme, _⟩ := he.form
  have HCL : Hid _ := hcell
  have HLA : Hid _ := ha
  have HLE : Hid _ := he
  clear hp ha he hcell
  obtain ⟨i0, hii, hiz, hisz, hib⟩ := info_parts point_info
  have HI : Hid _ := And.intro hii (And.intro hiz (And.intro hisz hib))
  clear hii hiz hisz hib
  have HK0 : Hid _ := KB.start4 w0 [.slice opv Ps.length cpv, .slice oav As.length cav, .slice oev Es.length cev, .int .i64 r] [.int .i64 q.x, .int .i64 q.y, .int .i64 q.z] [.slice none 0 0, .slice none 0 0, .slice none 0 0, .int .i64 0] [.slice none 0 0, .slice none 0 0, .slice none 0 0, .int .i64 r] 24 31 24 24
  unfold coreV Pt.v
  go_enter Tryz.func9, Tryz.ntmps9
  go_upto_region 2 with fail
  obtain ⟨W1, hW1⟩ : ∃ X, X = (((w0.alloc (.cells #[.slice opv Ps.length cpv, .slice oav As.length cav, .slice oev Es.length cev, .int .i64 r] 24)).alloc (.cells #[.int .i64 q.x, .int .i64 q.y, .int .i64 q.z] 31)).alloc (.cells #[.slice none 0 0, .slice none 0 0, .slice none 0 0, .int .i64 0] 24)).alloc (.cells #[.slice none 0 0, .slice none 0 0, .slice none 0 0, .int .i64 r] 24) := ⟨_, rfl⟩
  obtain ⟨cb, hcb⟩ : ∃ b, b = w0.heap.size := ⟨_, rfl⟩
  obtain ⟨mb, hmb⟩ : ∃ b, b = w0.heap.size + 1 := ⟨_, rfl⟩
  obtain ⟨ob, hob⟩ : ∃ b, b = w0.heap.size + 1 + 1 := ⟨_, rfl⟩
  obtain ⟨xb, hxb⟩ : ∃ b, b = w0.heap.size + 1 + 1 + 1 := ⟨_, rfl⟩
  obtain ⟨n0, hn0⟩ : ∃ b, b = w0.heap.size + 4 := ⟨_, rfl⟩
  rw [← hW1, ← hn0, ← hxb, ← hob, ← hmb, ← hcb] at HK0
  have HKB : Hid (KB w0 W1 n0 [(cb, [.slice opv Ps.length cpv, .slice oav As.length cav, .slice oev Es.length cev, .int .i64 r]), (mb, [.int .i64 q.x, .int .i64 q.y, .int .i64 q.z]), (ob, [.slice none 0 0, .slice none 0 0, .slice none 0 0, .int .i64 0])] xb [.slice none 0 0, .slice none 0 0, .slice none 0 0, .int .i64 r]) := HK0.out
  rw [← hW1, ← hxb, ← hob, ← hmb, ← hcb]
  have hx4 : xb < n0 ∧ ob < n0 ∧ w0.heap.size ≤ ob ∧ xb ≠ ob := by omega
  clear HK0 hW1 hn0 hxb hob hmb hcb
  go_wp2_with (fail)
  go_loopg [6] Ps.length (fun gm s6 wr => ∃ (i : Nat) (u : Value), s6 = .int .i64 (i : Int) ∧ i ≤ Ps.length ∧ gm = Ps.length - i ∧ Hid (KB w0 wr n0 [(cb, [.slice opv Ps.length cpv, .slice oav As.length cav, .slice oev Es.length cev, .int .i64 r]), (mb, [.int .i64 q.x, .int .i64 q.y, .int .i64 q.z]), (ob, [.slice none 0 0, .slice none 0 0, .slice none 0 0, .int .i64 0])] xb [u, .slice none 0 0, .slice none 0 0, .int .i64 r]) ∧ Hid (wr.ownsRow n0 31 3 u (firsts (fun k => (pt Ps k).plus q) i).length (fl3 (firsts (fun k => (pt Ps k).plus q) i))))
  case atStart => exact ⟨0, _, rfl, Nat.zero_le _, rfl, HKB, World.ownsRow_nil _ _ _ _⟩
  case round =>
    clear HKB
    obtain ⟨i, u, rfl, hi, hgm, HKB, HOW⟩ := hrel
    have HG1 : Hid _ := hgm
    clear hgm
    have HSU : Hid _ := firsts_app Ps (fun p => p.plus q) i
    have hMl : (firsts (fun k => (pt Ps k).plus q) i).length = i := firsts_length _ _
    obtain ⟨M, hM⟩ : ∃ M, M = (firsts (fun k => (pt Ps k).plus q) i) := ⟨_, rfl⟩
    rw [← hM] at HOW HSU hMl
    have HM : Hid _ := hM
    clear hM
    obtain ⟨uo, uc, hu⟩ := rowp_form HOW.out
    subst hu
    have hlm : M.length < 1099511627776 := by omega
    clear hMl
    have k0 := ((HKB.out.at List.mem_cons_self) 0 _ rfl).1
    have hxw := HKB.out.hx
    by_cases hit : i < Ps.length
    · obtain ⟨g7, f7, rfl, x0, x1, x2⟩ := HCL.out i hit
      have x0 := c_after HKB.out.below x0
      have x1 := c_after HKB.out.below x1
      have x2 := c_after HKB.out.below x2
      clear HCL HLA HLE
      generalize pt Ps i = p at *
      obtain ⟨ax, e1⟩ : ∃ s, IntKind.i64.wrap (p.x + q.x) = s := ⟨_, rfl⟩
      obtain ⟨ay, e2⟩ : ∃ s, IntKind.i64.wrap (p.y + q.y) = s := ⟨_, rfl⟩
      obtain ⟨az, e3⟩ : ∃ s, IntKind.i64.wrap (p.z + q.z) = s := ⟨_, rfl⟩
      have HPL : Hid (firsts (fun k => (pt Ps k).plus q) (i + 1) = M ++ [⟨ax, ay, az⟩]) := by show _ = _; rw [HSU.out, ← e1, ← e2, ← e3]; rfl
      clear HSU
      go_upto_region 6 with fail
      obtain ⟨V, hV⟩ : ∃ V, V = wr.alloc (.cells #[.int .i64 p.x, .int .i64 p.y, .int .i64 p.z] 31) := ⟨_, rfl⟩
      obtain ⟨pb, hpb⟩ : ∃ b, b = wr.heap.size := ⟨_, rfl⟩
      have B3 : Hid (Box3 V pb ⟨p.x, p.y, p.z⟩) := by show Box3 _ _ _; rw [hV, hpb]; exact Box3.new wr p.x p.y p.z _
      have HKB : Hid _ := HKB.out.step (n_after wr (.cells #[.int .i64 p.x, .int .i64 p.y, .int .i64 p.z] 31))
      rw [← hV] at HKB
      have HOW : Hid (V.ownsRow n0 31 3 (.slice uo M.length uc) M.length (fl3 M)) := by show World.ownsRow _ _ _ _ _ _ _; rw [hV]; exact own_below HOW.out (n_after _ _)
      rw [← hV, ← hpb]
      clear hV hpb x0 x1 x2 k0 hxw
      have hxw := HKB.out.hx
      have HUR : Hid (∀ r, (Value.slice uo M.length uc).ownBlock = some r → n0 ≤ r) := fun r e => (HOW.out.lt r e).1
      obtain ⟨p0, p1, p2, _, _, _⟩ := B3.out
      dsimp only at p0 p1 p2
      have m0 := ((HKB.out.at (List.mem_cons_of_mem _ List.mem_cons_self)) 0 _ rfl).1
      have m1 := ((HKB.out.at (List.mem_cons_of_mem _ List.mem_cons_self)) 1 _ rfl).1
      have m2 := ((HKB.out.at (List.mem_cons_of_mem _ List.mem_cons_self)) 2 _ rfl).1
      have t0 := (HKB.out.box 0 _ rfl).1
      go_wp2_with (at_builtin; refine wpList_append_own_at _ rfl _ _ 22 rfl n0 31 i0 _ 3 24 Tryz.underlying22 HI.out.1 HI.out.2.1 HI.out.2.2.1 HI.out.2.2.2 rfl (by decide) _ _ _ rfl (own_below HOW.out (n_after V _)) ⟨V.heap.size, 0, none⟩ 1 1 [.int .i64 ax, .int .i64 ay, .int .i64 az] rfl rfl (news_at (heap_alloc_new V _)) (by intro u hu; simp at hu; rcases hu with rfl | rfl | rfl <;> rfl) (by unfold maxLen; omega) (by omega) (by simp; omega) ?_; intro u9 V2 r8 g8 _ s8; obtain ⟨gg8, kk8, rfl⟩ := ownsRow_succ r8; have HK2 : Hid _ := (HKB.out.step (n_after _ _)).grew g8 HUR.out; have HO2 : Hid _ := r8; have t9 := HK2.out.box 0 _ rfl; have t0 := t9.1; have g0 := t9.2; clear t9 r8 g8 s8)
      go_roundg (Ps.length - (i + 1))
      case rel =>
        refine ⟨i + 1, _, rfl, by omega, rfl, HK2.out.put 0 _ (by simp), ?_⟩
        show World.ownsRow _ _ _ _ _ _ _
        rw [HPL.out, fl3_append, List.length_append]
        exact ownsRow_setCell_other HO2.out (fun e => by have h5 : n0 ≤ xb := (World.ownsRow.lt HO2.out _ e).1; omega) _
      case measure => have := HG1.out; omega
    · obtain rfl : i = Ps.length := by omega
      have HMP : Hid (M = Ps.map (fun p => p.plus q)) := by show _ = _; rw [HM.out]; exact firsts_map Ps (fun p => p.plus q)
      clear HM HSU HCL
      have HLA9 : Hid _ := HLA.out.below HKB.out.below
      have k1 := ((HKB.out.at List.mem_cons_self) 1 _ rfl).1
      have t1 := (HKB.out.box 1 _ rfl).1
      go_upto_region 8 with (at_builtin; refine append_lies rfl _ _ rfl n0 _ [] rfl (World.ownsRow_nil _ _ _ _) _ As rfl HLA9.out (by simp; omega) HKB.out.hx ?_; intro u1 V1 r1 gw s1; obtain ⟨o1, c1, e1⟩ := rowp_form r1; subst e1; have t9 := (HKB.out.grew gw (fun r e => by cases e)).box 1 _ rfl; have t1 := t9.1; have g1 := t9.2; clear t9)
      have HK1 : Hid _ := (HKB.out.grew gw (fun r e => by cases e)).put 1 (.slice o1 As.length c1) (by simp)
      have HO1 : Hid ((V1.setCell ⟨xb, 1, none⟩ (.slice o1 As.length c1)).ownsRow n0 31 3 (.slice uo M.length uc) M.length (fl3 M)) := ownsRow_setCell_other (row_turn HOW.out gw (fun r e => by cases e)) (fun e => by have h5 : n0 ≤ xb := (World.ownsRow.lt HOW.out _ e).1; omega) _
      have r1' : V1.ownsRow n0 31 3 (.slice o1 As.length c1) As.length (fl3 As) := by simpa using r1
      have HA1 : Hid ((V1.setCell ⟨xb, 1, none⟩ (.slice o1 As.length c1)).ownsRow n0 31 3 (.slice o1 As.length c1) As.length (fl3 As)) := ownsRow_setCell_other r1' (fun e => by have h5 : n0 ≤ xb := (World.ownsRow.lt r1' _ e).1; omega) _
      have HPA : Hid (∀ k, (Value.slice uo M.length uc).ownBlock = some k → (Value.slice o1 As.length c1).ownBlock ≠ some k) := fun k e1 e2 => by
        have h5 := (World.ownsRow.lt HOW.out _ e1).2
        rcases s1 with h | h
        · simp only [List.nil_append] at h; rw [h] at e2; cases e2
        · simp only [List.nil_append] at h; rw [h] at e2; cases e2; omega
      clear r1 r1' gw s1 HKB HOW k0 k1 t1 g1 HLA9 hxw
      generalize V1.setCell ⟨xb, 1, none⟩ (.slice o1 As.length c1) = X1 at *
      have HLE9 : Hid _ := HLE.out.below HK1.out.below
      have k2 := ((HK1.out.at List.mem_cons_self) 2 _ rfl).1
      have t2 := (HK1.out.box 2 _ rfl).1
      go_upto_region 9 with (at_builtin; refine append_lies rfl _ _ rfl n0 _ [] rfl (World.ownsRow_nil _ _ _ _) _ Es rfl HLE9.out (by simp; omega) HK1.out.hx ?_; intro u2 V2 r2 gw s2; obtain ⟨o2, c2, e2⟩ := rowp_form r2; subst e2; have t9 := (HK1.out.grew gw (fun r e => by cases e)).box 2 _ rfl; have t2 := t9.1; have g2 := t9.2; clear t9)
      have HK2 : Hid _ := (HK1.out.grew gw (fun r e => by cases e)).put 2 (.slice o2 Es.length c2) (by simp)
      have HO2 : Hid ((V2.setCell ⟨xb, 2, none⟩ (.slice o2 Es.length c2)).ownsRow n0 31 3 (.slice uo M.length uc) M.length (fl3 M)) := ownsRow_setCell_other (row_turn HO1.out gw (fun r e => by cases e)) (fun e => by have h5 : n0 ≤ xb := (World.ownsRow.lt HO1.out _ e).1; omega) _
      have HA2 : Hid ((V2.setCell ⟨xb, 2, none⟩ (.slice o2 Es.length c2)).ownsRow n0 31 3 (.slice o1 As.length c1) As.length (fl3 As)) := ownsRow_setCell_other (row_turn HA1.out gw (fun r e => by cases e)) (fun e => by have h5 : n0 ≤ xb := (World.ownsRow.lt HA1.out _ e).1; omega) _
      have r2' : V2.ownsRow n0 31 3 (.slice o2 Es.length c2) Es.length (fl3 Es) := by simpa using r2
      have HE2 : Hid ((V2.setCell ⟨xb, 2, none⟩ (.slice o2 Es.length c2)).ownsRow n0 31 3 (.slice o2 Es.length c2) Es.length (fl3 Es)) := ownsRow_setCell_other r2' (fun e => by have h5 : n0 ≤ xb := (World.ownsRow.lt r2' _ e).1; omega) _
      have HPE : Hid (∀ k, k < X1.heap.size → (Value.slice o2 Es.length c2).ownBlock ≠ some k) := fun k e1 e2 => by
        rcases s2 with h | h
        · simp only [List.nil_append] at h; rw [h] at e2; cases e2
        · simp only [List.nil_append] at h; rw [h] at e2; cases e2; omega
      have T3 : Hid (Three w0 (V2.setCell ⟨xb, 2, none⟩ (.slice o2 Es.length c2)) (.slice uo M.length uc) (.slice o1 As.length c1) (.slice o2 Es.length c2) M As Es) := ⟨own_le HO2.out HK2.out.hn, own_le HA2.out HK2.out.hn, own_le HE2.out HK2.out.hn, HPA.out, fun k e1 => HPE.out k (World.ownsRow.lt HO1.out _ e1).2, fun k e1 => HPE.out k (World.ownsRow.lt HA1.out _ e1).2, HK2.out.below⟩
      have T4 : Hid _ := T3.out.set hx4.2.2.1 (fun e => by have h5 := (World.ownsRow.lt HO2.out _ e).1; omega) (fun e => by have h5 := (World.ownsRow.lt HA2.out _ e).1; omega) (fun e => by have h5 := (World.ownsRow.lt HE2.out _ e).1; omega) (.slice uo M.length uc) (.slice o1 As.length c1) (.slice o2 Es.length c2) (.int .i64 r)
      clear r2 r2' gw s2 HK1 HO1 HA1 HO2 HA2 HE2 HPA HPE T3 k2 t2 g2 HLE9
      unfold set4 at T4
      generalize V2.setCell ⟨xb, 2, none⟩ (.slice o2 Es.length c2) = X2 at *
      have t0 := (HK2.out.box 0 _ rfl).1
      have t1 := (HK2.out.box 1 _ rfl).1
      have t2 := (HK2.out.box 2 _ rfl).1
      have t3 := (HK2.out.box 3 _ rfl).1
      have OC : Hid _ := HK2.out.at (List.mem_cons_of_mem _ (List.mem_cons_of_mem _ List.mem_cons_self))
      obtain ⟨b0, d0⟩ := OC.out 0 _ rfl
      obtain ⟨b1, d1⟩ := OC.out 1 _ rfl
      obtain ⟨b2, d2⟩ := OC.out 2 _ rfl
      obtain ⟨b3, d3⟩ := OC.out 3 _ rfl
      go_wp2_with (fail)
      exact bodyPost_ret (v := .agg #[.slice uo M.length uc, .slice o1 As.length c1, .slice o2 Es.length c2, .int .i64 r]) (by simp [results, Tryz.results9, go_sem, b0, b1, b2, b3]) rfl ⟨_, _, _, rfl, by rw [← HMP.out]; exact T4.out⟩
end Go.Proofs.YtompnibhfdkkjaaGreat
