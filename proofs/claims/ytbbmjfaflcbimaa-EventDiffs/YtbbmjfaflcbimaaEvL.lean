/- The document's own Diff. -/
import Derived.Test.YtbbmjfaflcbimaaEvK
import Derived.Deep.RegionHeld3
namespace Go.Proofs.Ytbbmjfaflcbimaa
open Go.RowKit Go.Shelf
set_option linter.unusedVariables false

theorem step_eapp {w : World} {ops : Array Oper} {o : Oper} {a : Act} {K : Act → World → Prop} {Q : Exit → Act → World → Prop} {E : Prop} (hgd : o.guard = none) (s x : Operand)
    (ho : o.op = .call { callee := .builtin .append, args := #[s, x], argTypes := #[31, 31] })
    (base : Nat) (v : Value) (M : List Ev) (hs : a.eval s = v) (h : OA w base v M) (xv : Value) (L : List Ev) (hx : a.eval x = xv) (hl : LiesE w xv L)
    (hN : M.length + L.length < 1099511627776) (hbase : base ≤ w.heap.size)
    (hk : ∀ v' w', OA w' base v' (M ++ L) → w.grownBy w' v.ownBlock → (v'.ownBlock = v.ownBlock ∨ v'.ownBlock = some w.heap.size) → K (a.put o.dst v') w') :
    if Region.wanted o (yielded ops a.tmps) = true then Oper.wp Try.prog o a w K Q else E := by
  rw [if_pos (by simp [Region.wanted, hgd])]
  obtain ⟨v', w', hr, h2, h3, h4⟩ := run_eapp (ty := o.type) h hl hN hbase
  unfold Oper.wp
  simp [execOp, ho, resolve, invoke, builtin, hs, hx, hr, Result.andThen]
  exact hk v' w' h2 h3 h4
theorem z_alloc_lt {w : World} (o : Obj) {a : Addr} {v : Value} (h : a.block < w.heap.size) (hc : w.cell? a = some v) : (w.alloc o).cell? a = some v := (World.cell?_alloc_lt w o a h).trans hc
/-- What one has beyond another one, as the document's own set tells it. -/
def RBY (w : World) (x y : Value) (L : List Pr) : Prop := ∀ W, Below w.heap.size w W → Calls Try.prog 38 #[x, y] W fun e V => ∃ u, e = .returned u ∧ V.ownsRow W.heap.size 60 2 u L.length (flat L) ∧ Below W.heap.size W V
structure EP (w W : World) (v : Value) (X : List Ev) (u : Value) (L : List Pr) : Prop where
  own : OA W w.heap.size v X
  below : Below w.heap.size w W
  row : W.ownsRow 0 60 2 u L.length (flat L)
  apart : ∀ k, v.ownBlock = some k → u.ownBlock ≠ some k
theorem EP.step {w W V : World} {v u : Value} {X : List Ev} {L : List Pr} (h : EP w W v X u L) (hb : Below W.heap.size W V) : EP w V v X u L := ⟨h.own.below hb, z_step h.below hb, z_own h.row hb, h.apart⟩
theorem EP.stepd {w W : World} {v u : Value} {X : List Ev} {L : List Pr} (h : EP w W v X u L) (o : Obj) : EP w (W.drew.alloc o) v X u L := h.step ((Below.refl _ W).drew.alloc (Nat.le_refl _) _)
theorem EP.app {w W V : World} {v v' u : Value} {X Y : List Ev} {L : List Pr} (h : EP w W v X u L) (r : OA V w.heap.size v' Y) (hg : W.grownBy V v.ownBlock) (hs : v'.ownBlock = v.ownBlock ∨ v'.ownBlock = some W.heap.size) : EP w V v' Y u L := by
  refine ⟨r, ((EO.mk h.own h.below).app r hg).below, ?_, fun k e => ?_⟩
  · cases e : u.ownBlock with
    | none => exact h.row.kept hg (Or.inl e)
    | some k => exact h.row.kept hg (Or.inr (by rw [e]; exact fun e' => h.apart k e'.symm e))
  · rcases hs with hs | hs
    · exact h.apart k (by rw [← hs, e])
    · rw [hs] at e
      cases e
      intro e'
      have := (h.row.lt _ e').2
      omega
theorem row_mono0 {w : World} {base : Nat} {e : TypeId} {size : Nat} {v : Value} {n : Nat} {xs : List Value} (h : w.ownsRow base e size v n xs) : w.ownsRow 0 e size v n xs :=
  ⟨h.1, h.2.imp id fun ⟨g, cap, cur, h1, h2, h3⟩ => ⟨g, cap, cur, h1, Nat.zero_le _, h3⟩⟩
set_option maxHeartbeats 4000000 in
set_option maxRecDepth 100000 in
theorem rdiff19_any (x y : Option Addr) (L M : List Pr) (w : World) (h1 : (y = none ∧ L = []) ∨ ((∃ a, y = some a) ∧ RBY w (.pointer y) (.pointer x) L)) (h2 : (x = none ∧ M = []) ∨ ((∃ a, x = some a) ∧ RBY w (.pointer x) (.pointer y) M)) (hL : L.length ≤ 4096) (hM : M.length ≤ 4096) :
    Calls Try.prog 25 #[.pointer x, .pointer y] w fun e W => ∃ u, e = .returned u ∧ OA W w.heap.size u (tellP 1 L ++ tellP 2 M) ∧ Below w.heap.size w W := by
  have H2 : Hid _ := h2
  have H1 : Hid _ := h1
  clear h1 h2
  go_enter Try.func25, Try.ntmps25
  go_upto_if 11 with fail
  go_cut [5] from 6 to 34 (fun s5 wx => ∃ o c, s5 = .slice o L.length c ∧ Hid (EO w wx (.slice o L.length c) (tellP 1 L)))
  case first =>
    rcases H1.out with ⟨rfl, rfl⟩ | ⟨⟨ay, rfl⟩, HBY⟩
    · go_wp2_with (fail)
      go_meet
      case rel => exact ⟨none, 0, rfl, OA.nil _ _, Below.refl _ _⟩
    · go_wp2_with (fail)
      refine Calls.mono (HBY w (Below.refl _ _)) ?_
      rintro e W1 ⟨u, rfl, hu, hb⟩
      obtain ⟨ou, cu, rfl⟩ := row_form hu
      have HO : Hid (EP w W1 (.slice none 0 0) ([] ++ tellP 1 (L.take 0)) (.slice ou L.length cu) L) := ⟨OA.nil _ _, hb, row_mono0 hu, fun k e => by cases e⟩
      clear hu hb HBY H2 H1
      go_wp2_with (fail)
      go_loopg [5, 7] L.length (fun gm s5 j wr => ∃ (k n2 : Nat) (o2 : Option Addr) (c2 : Nat), s5 = .slice o2 n2 c2 ∧ j = .int .i64 (k : Int) ∧ k ≤ L.length ∧ gm = L.length - k ∧ Hid (EP w wr (.slice o2 n2 c2) (([] : List Ev) ++ tellP 1 (L.take k)) (.slice ou L.length cu) L))
      case atStart => exact ⟨0, _, _, _, rfl, rfl, Nat.zero_le _, rfl, HO⟩
      case round =>
        obtain ⟨k, n2, o2, c2, rfl, rfl, hk, hgm, HK⟩ := hrel
        have HM : Hid _ := hgm
        clear hgm HO
        by_cases hlt : k < L.length
        · obtain ⟨o3, c3, e3, hlc, hcm, hcell⟩ := (Lies.of_row HK.out.row).form
          obtain ⟨g, off, e4, x0, x1⟩ := hcell k hlt
          injection e3 with e5 e6 e7
          rw [e4] at e5
          subst e5
          clear e7 e4 hcell hlc hcm
          have HT : Hid _ := tellP_more 1 L k hlt
          have HTL : Hid ((([] : List Ev) ++ tellP 1 (L.take k)).length ≤ 8192) := by show _ ≤ _; have := And.intro hL (show ([] : List Ev).length ≤ 4096 from by simp); have t := tellP_length 1 (L.take k); rw [List.length_take] at t; rw [List.length_append, t]; omega
          have hap : some g ≠ (Value.slice o2 n2 c2).ownBlock := fun e => HK.out.apart g e.symm rfl
          have HAP : Hid _ := hap
          have hgl : g < wr.heap.size := World.block_lt_of_cell? _ _ x0
          generalize pt L k = p at *
          obtain ⟨pa, pb⟩ := p
          dsimp only at x0 x1
          clear hap
          go_upto_region 7 with fail
          go_region_held3 (fun w' => w'.cell? ⟨g, off + k * 2, none⟩ = some (.int .i64 pa) ∧ w'.cell? ⟨g, off + k * 2 + 1, none⟩ = some (.int .i64 pb)) (first | go_keep | exact ⟨g8.cell (z_alloc_lt _ hgl x0) HAP.out, g8.cell (z_alloc_lt _ hgl x1) HAP.out⟩) ((refine step_eapp (by rfl) _ _ (by rfl) w.heap.size (.slice o2 n2 c2) (([] : List Ev) ++ tellP 1 (L.take k)) (by rfl) (HK.out.stepd (.cells #[.int .i64 1, .int .i64 pa, .int .i64 pb] 37)).own (.slice (some ⟨wr.heap.size, 0, none⟩) 1 1) [⟨1, pa, pb⟩] (by rfl) (one_lies (w := wr.drew) 1 pa pb) (by have := HTL.out; simp only [List.length_cons, List.length_nil]; omega) (by have := HK.out.below.size; simp; omega) ?_; intro u9 V9 r8 g8 s8))
          rw [List.append_assoc, HT.out] at r8
          have HK9 : Hid _ := (HK.out.stepd (.cells #[.int .i64 1, .int .i64 pa, .int .i64 pb] 37)).app r8 g8 s8
          obtain ⟨o9, c9, e9, _⟩ := HK9.out.own.len
          generalize (([] : List Ev) ++ tellP 1 (L.take (k + 1))).length = n9 at e9
          subst e9
          clear r8 g8 s8
          go_wp2_with (fail)
          go_roundg (L.length - (k + 1))
          case measure => have := HM.out; omega
          case rel => exact ⟨k + 1, n9, o9, c9, rfl, by go_num, by omega, rfl, HK9⟩
        · have e : k = L.length := by omega
          subst e
          rw [List.take_length] at HK
          obtain ⟨o9, c9, e9, _⟩ := HK.out.own.len
          injection e9 with e10 e9 e11
          clear e10 e11
          have HN9 : Hid _ := e9
          clear e9
          go_wp2_with (fail)
          go_meet
          case rel => exact ⟨o2, c2, by rw [HN9.out, List.nil_append, tellP_length], by have e := HN9.out; rw [List.nil_append, tellP_length] at e; rw [e, List.nil_append] at HK; exact ⟨HK.out.own, HK.out.below⟩⟩

  case rest =>
    clear H1
    obtain ⟨o, c, rfl, HE⟩ := hcut
    rcases H2.out with ⟨rfl, rfl⟩ | ⟨⟨ax, rfl⟩, HBX⟩
    · go_wp2_with (fail)
      go_ret
      exact ⟨_, rfl, by rw [show tellP 2 [] = [] from rfl, List.append_nil]; exact HE.out.own, HE.out.below⟩
    · go_wp2_with (fail)
      refine Calls.mono (HBX wc HE.out.below) ?_
      rintro e W1 ⟨u, rfl, hu, hb⟩
      obtain ⟨ou, cu, rfl⟩ := row_form hu
      have HO : Hid (EP w W1 (.slice o L.length c) (tellP 1 L ++ tellP 2 (M.take 0)) (.slice ou M.length cu) M) := ⟨by rw [show tellP 2 (M.take 0) = [] from rfl, List.append_nil]; exact HE.out.own.below hb, z_step HE.out.below hb, row_mono0 hu, fun k e e' => by have := (HE.out.own.lt k e).2; have := (hu.lt k e').1; omega⟩
      clear hu hb HBX H2 HE
      go_wp2_with (fail)
      go_loopg [5, 9] M.length (fun gm s5 j wr => ∃ (k n2 : Nat) (o2 : Option Addr) (c2 : Nat), s5 = .slice o2 n2 c2 ∧ j = .int .i64 (k : Int) ∧ k ≤ M.length ∧ gm = M.length - k ∧ Hid (EP w wr (.slice o2 n2 c2) (tellP 1 L ++ tellP 2 (M.take k)) (.slice ou M.length cu) M))
      case atStart => exact ⟨0, _, _, _, rfl, rfl, Nat.zero_le _, rfl, HO⟩
      case round =>
        obtain ⟨k, n2, o2, c2, rfl, rfl, hk, hgm, HK⟩ := hrel
        have HM : Hid _ := hgm
        clear hgm HO
        by_cases hlt : k < M.length
        · obtain ⟨o3, c3, e3, hlc, hcm, hcell⟩ := (Lies.of_row HK.out.row).form
          obtain ⟨g, off, e4, x0, x1⟩ := hcell k hlt
          injection e3 with e5 e6 e7
          rw [e4] at e5
          subst e5
          clear e7 e4 hcell hlc hcm
          have HT : Hid _ := tellP_more 2 M k hlt
          have HTL : Hid ((tellP 1 L ++ tellP 2 (M.take k)).length ≤ 8192) := by show _ ≤ _; have := And.intro hM (show (tellP 1 L).length ≤ 4096 by rw [tellP_length]; exact hL); have t := tellP_length 2 (M.take k); rw [List.length_take] at t; rw [List.length_append, t]; omega
          have hap : some g ≠ (Value.slice o2 n2 c2).ownBlock := fun e => HK.out.apart g e.symm rfl
          have HAP : Hid _ := hap
          have hgl : g < wr.heap.size := World.block_lt_of_cell? _ _ x0
          generalize pt M k = p at *
          obtain ⟨pa, pb⟩ := p
          dsimp only at x0 x1
          clear hap
          go_upto_region 13 with fail
          go_region_held3 (fun w' => w'.cell? ⟨g, off + k * 2, none⟩ = some (.int .i64 pa) ∧ w'.cell? ⟨g, off + k * 2 + 1, none⟩ = some (.int .i64 pb)) (first | go_keep | exact ⟨g8.cell (z_alloc_lt _ hgl x0) HAP.out, g8.cell (z_alloc_lt _ hgl x1) HAP.out⟩) ((refine step_eapp (by rfl) _ _ (by rfl) w.heap.size (.slice o2 n2 c2) (tellP 1 L ++ tellP 2 (M.take k)) (by rfl) (HK.out.stepd (.cells #[.int .i64 2, .int .i64 pa, .int .i64 pb] 37)).own (.slice (some ⟨wr.heap.size, 0, none⟩) 1 1) [⟨2, pa, pb⟩] (by rfl) (one_lies (w := wr.drew) 2 pa pb) (by have := HTL.out; simp only [List.length_cons, List.length_nil]; omega) (by have := HK.out.below.size; simp; omega) ?_; intro u9 V9 r8 g8 s8))
          rw [List.append_assoc, HT.out] at r8
          have HK9 : Hid _ := (HK.out.stepd (.cells #[.int .i64 2, .int .i64 pa, .int .i64 pb] 37)).app r8 g8 s8
          obtain ⟨o9, c9, e9, _⟩ := HK9.out.own.len
          generalize (tellP 1 L ++ tellP 2 (M.take (k + 1))).length = n9 at e9
          subst e9
          clear r8 g8 s8
          go_wp2_with (fail)
          go_roundg (M.length - (k + 1))
          case measure => have := HM.out; omega
          case rel => exact ⟨k + 1, n9, o9, c9, rfl, by go_num, by omega, rfl, HK9⟩
        · have e : k = M.length := by omega
          subst e
          rw [List.take_length] at HK
          obtain ⟨o9, c9, e9, _⟩ := HK.out.own.len
          injection e9 with e10 e9 e11
          clear e10 e11
          have HN9 : Hid _ := e9
          clear e9
          go_wp2_with (fail)
          go_ret
          exact ⟨_, rfl, HK.out.own, HK.out.below⟩

end Go.Proofs.Ytbbmjfaflcbimaa
