/- Package vec's sums, differences, products, lengths and directions, as laws. -/
import Derived.Test.YtccdgpijjgeedaaSNRight1
import Derived.Test.YtccdgpijjgeedaaSNRight0
import Derived.Laws.OwnMore
import Derived.Maps.AppendAt
set_option linter.unusedVariables false
namespace Go.Proofs.Ytccdgpijjgeedaa
section
open Go.RowKit Fx
def Step3 (f : Bool) (a b c : Option Int) (x y z : Int) (g : Bool) : Prop :=
 x = cond (a.isNone || b.isNone || c.isNone) 0 (a.getD 0) /\ y = cond (a.isNone || b.isNone || c.isNone) 0 (b.getD 0) /\ z = cond (a.isNone || b.isNone || c.isNone) 0 (c.getD 0) /\ g = (f || (a.isNone || b.isNone || c.isNone))
theorem row3 {w : World} {b : Nat} {x y z : Int} (h0 : w.cell? ⟨b, 0, none⟩ = some (.int .i64 x)) (h1 : w.cell? ⟨b, 1, none⟩ = some (.int .i64 y)) (h2 : w.cell? ⟨b, 2, none⟩ = some (.int .i64 z)) : NRow w (some ⟨b, 0, none⟩) [x, y, z] :=
 Or.inr ⟨b, 0, rfl, fun k hk => by
  match k, hk with
  | 0, _ => exact h0
  | 1, _ => exact h1
  | 2, _ => exact h2⟩
end
section
open Go.RowKit Fx
def rowsBad (q0 q1 q2 q3 : Int) : Bool := (((add q0 q0).isNone || (add q1 q1).isNone || (add q2 q2).isNone || (add q3 q3).isNone) || ((sub 0 q0).isNone || (sub 0 q1).isNone || (sub 0 q2).isNone || (sub 0 q3).isNone)) || ([(dot [((add q2 q2).getD 0), ((add q3 q3).getD 0)] [q2, q3]).isNone, (sub (4294967296) ((dot [((add q2 q2).getD 0), ((add q3 q3).getD 0)] [q2, q3]).getD 0)).isNone, (dot [((add q1 q1).getD 0), ((add q0 q0).getD 0)] [q2, ((sub 0 q3).getD 0)]).isNone, (dot [((add q1 q1).getD 0), ((add q0 q0).getD 0)] [q3, q2]).isNone, (dot [((add q1 q1).getD 0), ((add q0 q0).getD 0)] [q2, q3]).isNone, (dot [((add q1 q1).getD 0), ((add q3 q3).getD 0)] [q1, q3]).isNone, (sub (4294967296) ((dot [((add q1 q1).getD 0), ((add q3 q3).getD 0)] [q1, q3]).getD 0)).isNone, (dot [((add q2 q2).getD 0), ((add q0 q0).getD 0)] [q3, ((sub 0 q1).getD 0)]).isNone, (dot [((add q1 q1).getD 0), ((add q0 q0).getD 0)] [q3, ((sub 0 q2).getD 0)]).isNone, (dot [((add q2 q2).getD 0), ((add q0 q0).getD 0)] [q3, q1]).isNone, (dot [((add q1 q1).getD 0), ((add q2 q2).getD 0)] [q1, q2]).isNone, (sub (4294967296) ((dot [((add q1 q1).getD 0), ((add q2 q2).getD 0)] [q1, q2]).getD 0)).isNone] : List Bool).any id
def rowsAt0 (q0 q1 q2 q3 : Int) : Int := (sub (4294967296) ((dot [((add q2 q2).getD 0), ((add q3 q3).getD 0)] [q2, q3]).getD 0)).getD 0
def rowsAt1 (q0 q1 q2 q3 : Int) : Int := (dot [((add q1 q1).getD 0), ((add q0 q0).getD 0)] [q2, ((sub 0 q3).getD 0)]).getD 0
def rowsAt2 (q0 q1 q2 q3 : Int) : Int := (dot [((add q1 q1).getD 0), ((add q0 q0).getD 0)] [q3, q2]).getD 0
def rowsAt3 (q0 q1 q2 q3 : Int) : Int := (dot [((add q1 q1).getD 0), ((add q0 q0).getD 0)] [q2, q3]).getD 0
def rowsAt4 (q0 q1 q2 q3 : Int) : Int := (sub (4294967296) ((dot [((add q1 q1).getD 0), ((add q3 q3).getD 0)] [q1, q3]).getD 0)).getD 0
def rowsAt5 (q0 q1 q2 q3 : Int) : Int := (dot [((add q2 q2).getD 0), ((add q0 q0).getD 0)] [q3, ((sub 0 q1).getD 0)]).getD 0
def rowsAt6 (q0 q1 q2 q3 : Int) : Int := (dot [((add q1 q1).getD 0), ((add q0 q0).getD 0)] [q3, ((sub 0 q2).getD 0)]).getD 0
def rowsAt7 (q0 q1 q2 q3 : Int) : Int := (dot [((add q2 q2).getD 0), ((add q0 q0).getD 0)] [q3, q1]).getD 0
def rowsAt8 (q0 q1 q2 q3 : Int) : Int := (sub (4294967296) ((dot [((add q1 q1).getD 0), ((add q2 q2).getD 0)] [q1, q2]).getD 0)).getD 0
end
section
open Go.RowKit Go.Shelf
structure M9 where
 a0 : Int
 a1 : Int
 a2 : Int
 a3 : Int
 a4 : Int
 a5 : Int
 a6 : Int
 a7 : Int
 a8 : Int
def M9.v (m : M9) : Value := .agg #[.int .i64 m.a0, .int .i64 m.a1, .int .i64 m.a2, .int .i64 m.a3, .int .i64 m.a4, .int .i64 m.a5, .int .i64 m.a6, .int .i64 m.a7, .int .i64 m.a8]
def opt3 (a b c : Option Int) : Option Pt := match a, b, c with
 | some x, some y, some z => some ⟨x, y, z⟩
 | _, _, _ => none
def M9.turn (m : M9) (x : Pt) : Option Pt := opt3 (Fx.dot [m.a0, m.a1, m.a2] [x.x, x.y, x.z]) (Fx.dot [m.a3, m.a4, m.a5] [x.x, x.y, x.z]) (Fx.dot [m.a6, m.a7, m.a8] [x.x, x.y, x.z])
def Pt.addO (x y : Pt) : Option Pt := opt3 (Fx.add x.x y.x) (Fx.add x.y y.y) (Fx.add x.z y.z)
def Pt.times (p : Pt) (n : Int) : Pt := ⟨IntKind.i64.wrap (p.x * n), IntKind.i64.wrap (p.y * n), IntKind.i64.wrap (p.z * n)⟩
theorem step3_pt {f g : Bool} {a b c : Option Int} {x y z : Int} (h : Step3 f a b c x y z g) : (⟨x, y, z⟩ : Pt) = (opt3 a b c).getD Pt.O /\ g = (f || (opt3 a b c).isNone) := by
 obtain ⟨h1, h2, h3, h4⟩ := h
 subst h1 h2 h3 h4
 cases a <;> cases b <;> cases c <;> simp [opt3, Pt.O]
theorem Cells.after {W W' : World} {b : Nat} {u : Value} {vs : List Value} {g : Bool} (h : Cells W b (u :: vs)) (A : After ⟨b, 0, none⟩ g W W') : Cells W' b (.bool g :: vs) := by
 intro i v e
 have hb : b < W.heap.size := World.block_lt_of_cell? _ _ (h 0 u rfl).1
 cases i with
 | zero => simp at e; subst e; exact ⟨A.cell, A.frozen⟩
 | succ i =>
  obtain ⟨h1, h2⟩ := h (i + 1) v (by simpa using e)
  obtain ⟨a1, a2⟩ := A.beside hb (i + 1) (by simp)
  exact ⟨a1.trans h1, a2.trans h2⟩
theorem Cells.beside {W W' : World} {b b' : Nat} {vs : List Value} {g : Bool} (h : Cells W b vs) (A : After ⟨b', 0, none⟩ g W W') (hne : b ≠ b') : Cells W' b vs := fun i v e =>
 ⟨A.cellOf (h i v e).1 hne, A.frozenOf (h i v e).1 (h i v e).2 hne⟩
theorem Box3.after {W W' : World} {b b' : Nat} {q : Pt} {g : Bool} (h : Box3 W b q) (A : After ⟨b', 0, none⟩ g W W') (hne : b ≠ b') : Box3 W' b q :=
 ⟨A.cellOf h.c0 hne, A.cellOf h.c1 hne, A.cellOf h.c2 hne, A.frozenOf h.c0 h.f0 hne, A.frozenOf h.c1 h.f1 hne, A.frozenOf h.c2 h.f2 hne⟩
theorem RV.Pend.after {W0 : World} {T i j : Nat} {fin : Array Value} {γ : Nat -> Value} {L : Nat -> Bool} {w w' : World} {b : Nat} {g : Bool} (h : RV.Pend W0 T i j fin γ L w) (A : After ⟨b, 0, none⟩ g w w') (hb : b < W0.heap.size) : RV.Pend W0 T i j fin γ L w' := by
 intro hl
 obtain ⟨c, cs, h1, h2, h3, h4, h5⟩ := h hl
 exact ⟨c, cs, h1, h2, (A.kept.2.2.2 c (Array.getElem?_eq_some_iff.1 h3).1 (by show c ≠ b; omega)).trans h3, h4, h5⟩
theorem arr3' {cs : Array Value} (h : cs.size = 3) : ∃ u0 u1 u2, cs = #[u0, u1, u2] := by
 obtain ⟨l⟩ := cs
 match l, h with
 | [a, b, c], _ => exact ⟨a, b, c, rfl⟩
def M9.at1 (m : M9) (p : Pt) : Pt := (m.turn (p.times 1048576)).getD Pt.O
def M9.at2 (m : M9) (t p : Pt) : Pt := ((m.at1 p).addO t).getD Pt.O
def Pt.grain (p : Pt) : Pt := ⟨p.x / 1048576, p.y / 1048576, p.z / 1048576⟩
def M9.ptV (m : M9) (t p : Pt) : Pt := (m.at2 t p).grain
def M9.ptB (m : M9) (t p : Pt) : Bool := (m.turn (p.times 1048576)).isNone || ((m.at1 p).addO t).isNone
structure Q4 where
 w : Int
 x : Int
 y : Int
 z : Int
def rowsB (q : Q4) : Bool := rowsBad q.w q.x q.y q.z
def rowsM (q : Q4) : M9 := ⟨cond (rowsB q) 0 (rowsAt0 q.w q.x q.y q.z), cond (rowsB q) 0 (rowsAt1 q.w q.x q.y q.z), cond (rowsB q) 0 (rowsAt2 q.w q.x q.y q.z), cond (rowsB q) 0 (rowsAt3 q.w q.x q.y q.z), cond (rowsB q) 0 (rowsAt4 q.w q.x q.y q.z), cond (rowsB q) 0 (rowsAt5 q.w q.x q.y q.z), cond (rowsB q) 0 (rowsAt6 q.w q.x q.y q.z), cond (rowsB q) 0 (rowsAt7 q.w q.x q.y q.z), cond (rowsB q) 0 (rowsAt8 q.w q.x q.y q.z)⟩
def poseV (t : Pt) (q : Q4) : Value := .agg #[.int .i64 t.x, .int .i64 t.y, .int .i64 t.z, .int .i64 q.w, .int .i64 q.x, .int .i64 q.y, .int .i64 q.z]
end
section
open Go.RowKit Go.Shelf
theorem rowp_form {W : World} {base : Nat} {u : Value} {n : Nat} {xs : List Value} (h : W.ownsRow base 26 3 u n xs) : ∃ o c, u = .slice o n c := by
 rcases h.2 with ⟨rfl, h0⟩ | ⟨g, cap, cur, rfl, _⟩
 ·exact ⟨none, 0, by rw [h0]⟩
 ·exact ⟨_, _, rfl⟩
theorem pts_read {w : World} {g off n c : Nat} {L : List Pt} (h : Lies w (.slice (some ⟨g, off, none⟩) n c) L) : ∀ j u, (fl3 L)[j]? = some u -> w.cell? ((⟨g, off, none⟩ : Addr).add j) = some u := by
 intro j u hj
 obtain ⟨o, cap, e, _, _, hc⟩ := h.form
 simp only [Value.slice.injEq] at e
 obtain ⟨rfl, rfl, rfl⟩ := e
 have hl : j < L.length * 3 := by have := (List.getElem?_eq_some_iff.1 hj).1; rwa [fl3_length] at this
 have hi : j / 3 < L.length := by omega
 obtain ⟨g', off', e', x0, x1, x2⟩ := hc (j / 3) hi
 cases e'
 obtain ⟨f0, f1, f2⟩ := fl3_at L (j / 3) hi
 have ej : j = j / 3 * 3 \/ j = j / 3 * 3 + 1 \/ j = j / 3 * 3 + 2 := by omega
 have ad : (⟨g, off, none⟩ : Addr).add j = ⟨g, off + j, none⟩ := by unfold Addr.add; split <;> simp_all
 rw [ad]
 rcases ej with e | e | e
 ·rw [e] at hj ⊢; rw [f0] at hj; rw [<- hj]; exact x0
 ·rw [e] at hj ⊢; rw [f1] at hj; rw [<- hj]; rw [<- Nat.add_assoc]; exact x1
 ·rw [e] at hj ⊢; rw [f2] at hj; rw [<- hj]; rw [<- Nat.add_assoc]; exact x2
theorem none_run {P : Program} {w : World} (base : Nat) (t ty e : TypeId) (i : TypeInfo) (size : Nat) (ht : P.underlying t = some (.slice e)) (hi : P.info? e = some i) (v : Value) (n c : Nat) (xs : List Value) (hown : w.ownsRow base e size v n xs) :
  (Builtin.append_ #[t, t] ty #[v, .slice none 0 c]).run P w = .ok v w := by
 rcases hown.2 with ⟨rfl, rfl⟩ | ⟨g, cap, cur, rfl, _, _, hnc, _⟩
 ·simp [Builtin.append_, run_underlying ht, sizeOf, typeInfo, hi, Builtin.lenOf, Builtin.firstCells]
 ·simp [Builtin.append_, run_underlying ht, sizeOf, typeInfo, hi, Builtin.lenOf, Builtin.firstCells, hnc, storeCells]
theorem append_lies {w : World} {ops : Array Oper} {rest : List Oper} {o : Oper} {a : Act} {Q : Exit -> Act -> World -> Prop} (hgd : o.guard = none) (s x : Operand)
  (ho : o.op = .call { callee := .builtin .append, args := #[s, x], argTypes := #[22, 22] })
  (base : Nat) (v : Value) (M : List Pt) (hs : a.eval s = v) (hown : w.ownsRow base 26 3 v M.length (fl3 M)) (xv : Value) (L : List Pt) (hx : a.eval x = xv) (hl : Lies w xv L)
  (hN : M.length + L.length < 2199023255552) (hbase : base <= w.heap.size)
  (h : ∀ v' w', w'.ownsRow base 26 3 v' (M ++ L).length (fl3 (M ++ L)) -> w.grownBy w' v.ownBlock -> (v'.ownBlock = v.ownBlock \/ v'.ownBlock = some w.heap.size) -> wpList Try.prog ops Q rest (a.put o.dst v') w') :
  wpList Try.prog ops Q (o :: rest) a w := by
 obtain ⟨i0, hii, hiz, hisz, hib⟩ := info_parts point_info
 obtain ⟨oo, cap, rfl, hlc, hcm, hc⟩ := hl.form
 rcases Nat.eq_zero_or_pos L.length with h0 | h0
 ·have hL : L = [] := List.length_eq_zero_iff.1 h0
  subst hL
  cases oo with
  | none =>
   refine wpList_plain hgd fun K hK => ?_
   have hrun := none_run (P := Try.prog) (w := w) base 22 o.type 26 i0 3 Try.underlying22 hii v M.length cap (fl3 M) hown
   unfold Oper.wp
   simp [execOp, ho, resolve, invoke, builtin, hs, hx, hrun, Result.andThen]
   refine hK _ _ (h v w ?_ (below_grown (Below.refl _ _) _) (Or.inl rfl))
   rw [List.append_nil]; exact hown
  | some ad =>
   refine wpList_append_own_at w hgd s x _ ho base 26 i0 _ 3 24 Try.underlying22 hii hiz hisz hib rfl (by decide) v M.length (fl3 M) hs hown ad 0 cap [] hx rfl (fun j u e => by simp at e) (fun u e => by simp at e) (by unfold maxLen; omega) (by omega) hbase ?_
   intro v' w' r8 g8 _ s8
   refine h v' w' ?_ g8 s8
   rw [List.append_nil]; simpa using r8
 ·obtain ⟨g, off, rfl, _⟩ := hc 0 h0
  refine wpList_append_own_at w hgd s x _ ho base 26 i0 _ 3 24 Try.underlying22 hii hiz hisz hib rfl (by decide) v M.length (fl3 M) hs hown ⟨g, off, none⟩ L.length cap (fl3 L) hx (fl3_length L) (pts_read hl) (fl3_one _) (by unfold maxLen; omega) (by omega) hbase ?_
  intro v' w' r8 g8 _ s8
  refine h v' w' ?_ g8 s8
  rw [fl3_append, List.length_append]; exact r8
end
section
open Go.RowKit Go.Shelf
attribute [local go_sem] Oper.semAt_some
theorem row_turn {A B : World} {base e size k : Nat} {u : Value} {xs : List Value} {row : Option Nat} (h : A.ownsRow base e size u k xs) (hg : A.grownBy B row) (hr : ∀ r, row = some r -> r < base) : B.ownsRow base e size u k xs := by
 refine h.kept hg ?_
 cases e1 : u.ownBlock with
 | none => exact .inl rfl
 | some b => exact .inr (fun e => by have := (h.lt b e1).1; have := hr b (by rw [<- e]); omega)
def firsts (enc : Nat -> Pt) (k : Nat) : List Pt := (List.range k).map enc
theorem firsts_succ (enc : Nat -> Pt) (k : Nat) : firsts enc (k + 1) = firsts enc k ++ [enc k] := by simp [firsts, List.range_succ]
theorem firsts_length (enc : Nat -> Pt) (k : Nat) : (firsts enc k).length = k := by simp [firsts]
theorem firsts_map (Ls : List Pt) (f : Pt -> Pt) : firsts (fun k => f (pt Ls k)) Ls.length = Ls.map f := by
 unfold firsts
 apply List.ext_getElem
 ·simp
 ·intro i h1 h2
  simp at h1 h2
  simp [pt, h2]
end
section
open Go.RowKit Go.Shelf
theorem win_in (p : Pt) (m : Int) (h1 : 0 <= m) (h2 : m <= 9223372036854775807) : p.win m = p.inB m := by
 have e : IntKind.i64.wrap (-m) = -m := by rw [IntKind.wrap_i64]; omega
 unfold Pt.win Pt.le
 rw [e, Bool.eq_iff_iff, Pt.inB_iff]
 simp only [Bool.and_eq_true, decide_eq_true_eq]
 omega
def longF : Nat -> Pt -> Pt
 | 0, p => p
 | n + 1, p => if p.inB 524288 then longF n (p.plus p) else p
def Pt.long (p : Pt) : Pt := if p = Pt.O then p else longF 20 p
def Pt.big (p : Pt) (n : Nat) : Prop := 2 ^ n <= p.x.natAbs \/ 2 ^ n <= p.y.natAbs \/ 2 ^ n <= p.z.natAbs
theorem big_lt {q : Pt} {g : Nat} (hq : q.inB 524288 = true) (hb : q.big (20 - g)) : 1 <= g := by
 rw [Pt.inB_iff] at hq
 rcases Nat.eq_zero_or_pos g with rfl | h
 ·unfold Pt.big at hb
  simp only [Nat.sub_zero, Nat.reducePow] at hb
  omega
 ·exact h
theorem long_step {q : Pt} {g : Nat} (hq : q.inB 524288 = true) (hb : q.big (20 - (g + 1))) (hg : g + 1 <= 20) : longF (g + 1) q = longF g (q.plus q) /\ (q.plus q).big (20 - g) /\ q.plus q = ⟨2 * q.x, 2 * q.y, 2 * q.z⟩ := by
 have hI := (Pt.inB_iff _ _).1 hq
 have e : q.plus q = ⟨2 * q.x, 2 * q.y, 2 * q.z⟩ := by
  unfold Pt.plus
  congr 1
  ·rw [IntKind.wrap_i64]; omega
  ·rw [IntKind.wrap_i64]; omega
  ·rw [IntKind.wrap_i64]; omega
 refine ⟨by simp [longF, hq], ?_, e⟩
 rw [e]
 unfold Pt.big at *
 have : 20 - g = (20 - (g + 1)) + 1 := by omega
 rw [this, Nat.pow_succ]
 dsimp only
 omega
theorem big_zero {p : Pt} (h : p ≠ Pt.O) : p.big 0 := by
 unfold Pt.big
 apply Classical.byContradiction
 intro hn
 apply h
 obtain ⟨x, y, z⟩ := p
 simp only [Nat.pow_zero] at hn
 have h1 : x = 0 := by omega
 have h2 : y = 0 := by omega
 have h3 : z = 0 := by omega
 rw [h1, h2, h3]; rfl
def M9.dirT (m : M9) (p : Pt) : Pt := (m.turn (p.long.times 4096)).getD Pt.O
def Pt.quo (p : Pt) (n : Int) : Pt := ⟨wrap64 (p.x.tdiv n), wrap64 (p.y.tdiv n), wrap64 (p.z.tdiv n)⟩
def M9.dirV (m : M9) (p : Pt) : Pt := ((m.dirT p).quo 4096).short
def M9.dirB (m : M9) (p : Pt) : Bool := (m.turn (p.long.times 4096)).isNone
def M9.dirs (m : M9) (A : List Pt) : List Pt := (A.map m.dirV).filter (fun p => decide (p ≠ Pt.O))
def dirsK (enc : Nat -> Pt) (k : Nat) : List Pt := (firsts enc k).filter (fun p => decide (p ≠ Pt.O))
theorem dirsK_yes (enc : Nat -> Pt) (k : Nat) (h : enc k ≠ Pt.O) : dirsK enc (k + 1) = dirsK enc k ++ [enc k] := by unfold dirsK; rw [firsts_succ, List.filter_append]; simp [h]
theorem dirsK_no (enc : Nat -> Pt) (k : Nat) (h : enc k = Pt.O) : dirsK enc (k + 1) = dirsK enc k := by unfold dirsK; rw [firsts_succ, List.filter_append]; simp [h]
theorem dirsK_length (enc : Nat -> Pt) (k : Nat) : (dirsK enc k).length <= k := by have := List.length_filter_le (fun p => decide (p ≠ Pt.O)) (firsts enc k); rw [firsts_length] at this; exact this
def anyK (f : Nat -> Bool) : Nat -> Bool
 | 0 => false
 | k + 1 => anyK f k || f k
theorem anyK_any (Ls : List Pt) (f : Pt -> Bool) : anyK (fun k => f (pt Ls k)) Ls.length = Ls.any f := by
 have key : ∀ k, k <= Ls.length -> anyK (fun k => f (pt Ls k)) k = (Ls.take k).any f := by
  intro k
  induction k with
  | zero => intro _; simp [anyK]
  | succ k ih =>
   intro hk
   rw [List.take_succ_eq_append_getElem (by omega), List.any_append, <- ih (by omega)]
   simp [anyK, pt, List.getElem?_eq_getElem (show k < Ls.length by omega)]
 rw [key _ (Nat.le_refl _), List.take_length]
theorem after_grown {W W' : World} {b : Nat} {g : Bool} (A : After ⟨b, 0, none⟩ g W W') : W.grownBy W' (some b) := ⟨A.kept.1, A.kept.2.1, A.kept.2.2.1, A.size, fun k hk hn => A.kept.2.2.2 k hk (fun e => hn (by rw [e]))⟩
end
section
open Go.RowKit Go.Shelf
attribute [local go_sem] Oper.semAt_some
def Bx.l (b : Bx) : List Value := [.int .i64 b.lo.x, .int .i64 b.lo.y, .int .i64 b.lo.z, .int .i64 b.hi.x, .int .i64 b.hi.y, .int .i64 b.hi.z]
end
section
open Go.RowKit Go.Shelf
theorem Lies.grown {A B : World} {v : Value} {Ls : List Pt} {fb : Nat} (h : Lies A v Ls) (hg : A.grownBy B (some fb)) (hne : ∀ q n c, v = .slice (some q) n c -> Ls ≠ [] -> q.block ≠ fb) : Lies B v Ls := by
 obtain ⟨o, cap, e, h1, h2, h3⟩ := h.form
 refine ⟨o, cap, e, h1, h2, fun i hi => ?_⟩
 obtain ⟨g, off, e', a, b, c⟩ := h3 i hi
 have hf : g ≠ fb := hne ⟨g, off, none⟩ _ _ (by rw [e, e']) (fun e0 => by rw [e0] at hi; simp at hi)
 have hbl : B.heap[g]? = A.heap[g]? := hg.block g (World.block_lt_of_cell? _ _ a) (fun e => hf (by simpa using e))
 exact ⟨g, off, e', (World.cell?_of_block (w := A) hbl).trans a, (World.cell?_of_block (w := A) hbl).trans b, (World.cell?_of_block (w := A) hbl).trans c⟩
theorem Lies.lt {A : World} {Ls : List Pt} {q : Addr} {n c : Nat} (h : Lies A (.slice (some q) n c) Ls) (h0 : Ls ≠ []) : q.block < A.heap.size := by
 obtain ⟨o, cap, e, h1, h2, h3⟩ := h.form
 obtain ⟨g, off, e', a, _⟩ := h3 0 (List.length_pos_iff.2 h0)
 simp only [Value.slice.injEq] at e
 rw [<- e.1] at e'
 cases e'
 exact World.block_lt_of_cell? _ _ a
end
section
open Go.RowKit Go.Shelf
def placeableP (P A E : List Pt) : Bool := decide (0 < P.length) && (P.all (fun p => p.win 1048576) && (A.all (fun p => p.win 1048576) && E.all (fun p => p.win 1048576)))
section
variable {V : World} {cb fb : Nat} {pv av ev : Value} {r : Int} {f b1 b2 b3 : Bool} {m : M9} {t : Pt} {P A E : List Pt} {g4 g5 g9 g13 g16 g17 : Value} {l4 l5 l9 l13 l16 l17 l18 : Bool} {w w' : World}
end
theorem arr4' {cs : Array Value} (h : cs.size = 4) : ∃ u0 u1 u2 u3, cs = #[u0, u1, u2, u3] := by
 obtain ⟨l⟩ := cs
 match l, h with
 | [a, b, c, d], _ => exact ⟨a, b, c, d, rfl⟩
end
section
open Go.RowKit Go.Shelf
def badP (t : Pt) (q : Q4) (P A E : List Pt) : Bool := rowsB q || P.any ((rowsM q).ptB t) || A.any (rowsM q).dirB || E.any (rowsM q).dirB
def nearP (P : List Pt) : Bool := P.all fun p => p.win 8388608
def placeOk (t : Pt) (q : Q4) (P A E : List Pt) : Bool := placeableP P A E && (!(badP t q P A E) && nearP (P.map ((rowsM q).ptV t)))
end
section
open Go.RowKit Fx
theorem neg_is (y : Int) : ((sub 0 y).isNone = true /\ great y = true /\ great (-y) = true) \/ ((sub 0 y) = some (-y) /\ great y = false /\ great (-y) = false) := by
 cases h : great y
 ·have h' := (not_great y).1 h
  have g : great (-y) = false := (not_great _).2 (by omega)
  refine Or.inr ⟨?_, rfl, g⟩
  have z : great 0 = false := by decide
  have e : (0 : Int) - y = -y := by omega
  simp [sub, h, z, told, e, g]
 ·have h' := (great_iff y).1 h
  refine Or.inl ⟨?_, rfl, (great_iff _).2 (by omega)⟩
  simp [sub, h]
end
section
open Go.RowKit Fx
theorem in_square {x n R : Int} (hR : 0 <= R) (hn : 0 <= n) (h : x * x + R < (n + 1) * (n + 1)) : -n <= x /\ x <= n := by
 constructor
 ·apply Int.not_lt.1
  intro hlt
  have := Int.mul_le_mul (show n + 1 <= -x by omega) (show n + 1 <= -x by omega) (by omega) (by omega)
  rw [Int.neg_mul_neg] at this
  omega
 ·apply Int.not_lt.1
  intro hlt
  have := Int.mul_le_mul (show n + 1 <= x by omega) (show n + 1 <= x by omega) (by omega) (by omega)
  omega
theorem sq_nonneg (x : Int) : 0 <= x * x := by
 rcases Int.le_total 0 x with g | g
 ·exact Int.mul_nonneg g g
 ·exact Int.mul_nonneg_of_nonpos_of_nonpos g g
end
section
open Go.RowKit Fx
def wholeBad (q0 q1 q2 q3 : Int) : Bool := decide (((norm [q0, q1, q2, q3]).getD 0) < 2147483648) || ((ratio q0 4294967296 ((norm [q0, q1, q2, q3]).getD 0)).isNone || (ratio q1 4294967296 ((norm [q0, q1, q2, q3]).getD 0)).isNone || (ratio q2 4294967296 ((norm [q0, q1, q2, q3]).getD 0)).isNone || (ratio q3 4294967296 ((norm [q0, q1, q2, q3]).getD 0)).isNone)
end
section
open Go.RowKit Fx
namespace WM
theorem mul_in {a b A B : Int} (ha : -A <= a /\ a <= A) (hb : -B <= b /\ b <= B) : -(A * B) <= a * b /\ a * b <= A * B := by
 have h1 := Int.mul_nonneg (show 0 <= A - a by omega) (show 0 <= B + b by omega)
 have h2 := Int.mul_nonneg (show 0 <= A + a by omega) (show 0 <= B - b by omega)
 have h3 := Int.mul_nonneg (show 0 <= A - a by omega) (show 0 <= B - b by omega)
 have h4 := Int.mul_nonneg (show 0 <= A + a by omega) (show 0 <= B + b by omega)
 simp only [Int.add_mul, Int.sub_mul, Int.mul_add, Int.mul_sub] at h1 h2 h3 h4
 omega
theorem norm4_some {x y z u s : Int} (h : norm [x, y, z, u] = some s) : great x = false /\ great y = false /\ great z = false /\ great u = false /\ great s = false /\ 0 <= s /\ s * s <= x * x + (y * y + (z * z + u * u)) /\ x * x + (y * y + (z * z + u * u)) < (s + 1) * (s + 1) := by
 unfold norm at h
 split at h
 ·simp at h
 ·split at h
  ·simp at h
  ·rename_i ha
   unfold told at h
   split at h
   ·simp at h
   ·rename_i hg
    have hg' : great _ = false := Bool.eq_false_iff.2 hg
    simp only [Option.some.injEq] at h
    rw [h] at hg'
    obtain ⟨p, q⟩ := isq_is (prods [x, y, z, u] [x, y, z, u]).toNat
    have h0 := prods_self [x, y, z, u]
    generalize hr : isq (prods [x, y, z, u] [x, y, z, u]).toNat = r at *
    have p' := Int.ofNat_le.2 p
    have q' := Int.ofNat_lt.2 q
    rw [Int.toNat_of_nonneg h0, Int.natCast_mul] at p' q'
    rw [Int.natCast_add] at q'
    simp only [prods, Int.add_zero] at p' q'
    simp only [List.any_cons, List.any_nil, Bool.or_false, Bool.not_eq_true, Bool.or_eq_false_iff] at ha
    subst h
    exact ⟨ha.1, ha.2.1, ha.2.2.1, ha.2.2.2, hg', by omega, p', q'⟩
theorem part4 {x n u t : Int} (hn : 0 < n) (ht : -t <= x /\ x <= t) (htn : t <= n) (hu : u = x * 4294967296 / n) : -4294967296 <= u /\ u <= 4294967296 /\ n * n * (u * u) <= 18446744073709551616 * (x * x) + 8589934592 * (t * n) + n * n /\ 18446744073709551616 * (x * x) <= n * n * (u * u) + 8589934592 * (t * n) := by
 have hd := div_is (x * 4294967296) n (by omega)
 rw [<- hu] at hd
 obtain ⟨e, he⟩ : ∃ e, e = x * 4294967296 - u * n := ⟨_, rfl⟩
 have e0 : 0 <= e := by omega
 have e1 : e < n := by have := hd.2; rw [Int.add_mul] at this; omega
 have un : u * n = x * 4294967296 - e := by omega
 have sq : n * n * (u * u) = 18446744073709551616 * (x * x) - 8589934592 * (x * e) + e * e := by
  have : n * n * (u * u) = (u * n) * (u * n) := by grind
  rw [this, un]; grind
 have b1 := mul_in (a := x) (b := e) (A := t) (B := n) ht (by omega)
 have b3 : e * e <= n * n := Int.mul_le_mul (by omega) (by omega) e0 (by omega)
 have b4 : 0 <= e * e := Int.mul_nonneg e0 e0
 refine ⟨?_, ?_, by omega, by omega⟩
 ·apply Int.not_lt.1
  intro hlt
  have := Int.mul_le_mul_of_nonneg_right (show u + 1 <= -4294967296 by omega) (show 0 <= n by omega)
  have := hd.2
  omega
 ·apply Int.not_lt.1
  intro hlt
  have := Int.mul_le_mul_of_nonneg_right (show 4294967297 <= u by omega) (show 0 <= n by omega)
  have := hd.1
  omega
theorem size_of (x : Int) : ∃ t : Int, 0 <= t /\ (-t <= x /\ x <= t) /\ t * t = x * x /\ (t = x \/ t = -x) := by
 rcases Int.le_total 0 x with g | g
 ·exact ⟨x, g, ⟨by omega, by omega⟩, rfl, Or.inl rfl⟩
 ·exact ⟨-x, by omega, ⟨by omega, by omega⟩, by rw [Int.neg_mul_neg], Or.inr rfl⟩
theorem cauchy4 (a b c d : Int) : (a + b + c + d) * (a + b + c + d) <= 4 * (a * a + (b * b + (c * c + d * d))) := by
 have h1 := sq_nonneg (a - b)
 have h2 := sq_nonneg (a - c)
 have h3 := sq_nonneg (a - d)
 have h4 := sq_nonneg (b - c)
 have h5 := sq_nonneg (b - d)
 have h6 := sq_nonneg (c - d)
 have e : 4 * (a * a + (b * b + (c * c + d * d))) - (a + b + c + d) * (a + b + c + d) = (a - b) * (a - b) + (a - c) * (a - c) + (a - d) * (a - d) + (b - c) * (b - c) + (b - d) * (b - d) + (c - d) * (c - d) := by grind
 omega
theorem whole_long {x y z s n : Int} (h : norm [x, y, z, s] = some n) (hn : 2147483648 <= n) : ∃ a b c d l, ratio x 4294967296 n = some a /\ ratio y 4294967296 n = some b /\ ratio z 4294967296 n = some c /\ ratio s 4294967296 n = some d /\ norm [a, b, c, d] = some l /\ 4294967292 <= l /\ l <= 4294967300 /\
  (-4294967296 <= a /\ a <= 4294967296) /\ (-4294967296 <= b /\ b <= 4294967296) /\ (-4294967296 <= c /\ c <= 4294967296) /\ (-4294967296 <= d /\ d <= 4294967296) /\
  -34359738376 <= a * a + (b * b + (c * c + d * d)) - 18446744073709551616 /\ a * a + (b * b + (c * c + d * d)) - 18446744073709551616 <= 34359738376 := by
 obtain ⟨gx, gy, gz, gs, gn, n0, h1, h2⟩ := norm4_some h
 have px := sq_nonneg x
 have py := sq_nonneg y
 have pz := sq_nonneg z
 have ps := sq_nonneg s
 have ix := in_square (x := x) (R := y * y + (z * z + s * s)) (by omega) n0 (by omega)
 have iy := in_square (x := y) (R := x * x + (z * z + s * s)) (by omega) n0 (by omega)
 have iz := in_square (x := z) (R := x * x + (y * y + s * s)) (by omega) n0 (by omega)
 have is := in_square (x := s) (R := x * x + (y * y + z * z)) (by omega) n0 (by omega)
 obtain ⟨tx, tx0, tx1, tx2, tx3⟩ := size_of x
 obtain ⟨ty, ty0, ty1, ty2, ty3⟩ := size_of y
 obtain ⟨tz, tz0, tz1, tz2, tz3⟩ := size_of z
 obtain ⟨ts, ts0, ts1, ts2, ts3⟩ := size_of s
 have hx9 : tx <= n := by clear ty3 tz3 ts3; omega
 have hy9 : ty <= n := by clear tx3 tz3 ts3; omega
 have hz9 : tz <= n := by clear tx3 ty3 ts3; omega
 have hs9 : ts <= n := by clear tx3 ty3 tz3; omega
 clear tx3 ty3 tz3 ts3
 have kx := part4 (u := x * 4294967296 / n) (by omega) tx1 hx9 rfl
 have ky := part4 (u := y * 4294967296 / n) (by omega) ty1 hy9 rfl
 have kz := part4 (u := z * 4294967296 / n) (by omega) tz1 hz9 rfl
 have ks := part4 (u := s * 4294967296 / n) (by omega) ts1 hs9 rfl
 have one : ∀ t : Int, great t = false -> -4294967296 <= t * 4294967296 / n /\ t * 4294967296 / n <= 4294967296 -> ratio t 4294967296 n = some (t * 4294967296 / n) := by
  intro t gt hb
  have g1 : great 4294967296 = false := by decide
  have g2 : great (t * 4294967296 / n) = false := (not_great _).2 ⟨Int.le_trans (by omega) hb.1, Int.le_trans hb.2 (by omega)⟩
  unfold ratio fl
  rw [if_neg (by omega : ¬ n = 0), gt, g1, gn, if_neg (by omega : ¬ n < 0)]
  simp [told, g2]
 have r0 := one x gx ⟨kx.1, kx.2.1⟩
 have r1 := one y gy ⟨ky.1, ky.2.1⟩
 have r2 := one z gz ⟨kz.1, kz.2.1⟩
 have r3 := one s gs ⟨ks.1, ks.2.1⟩
 generalize x * 4294967296 / n = a at *
 generalize y * 4294967296 / n = b at *
 generalize z * 4294967296 / n = c at *
 generalize s * 4294967296 / n = d at *
 clear one
 have ga : great a = false := (not_great _).2 (by omega)
 have gb : great b = false := (not_great _).2 (by omega)
 have gc : great c = false := (not_great _).2 (by omega)
 have gd : great d = false := (not_great _).2 (by omega)
 obtain ⟨T, hT⟩ : ∃ T, T = tx + ty + tz + ts := ⟨_, rfl⟩
 have hc := cauchy4 tx ty tz ts
 rw [<- hT, tx2, ty2, tz2, ts2] at hc
 have h3 : (n + 1) * (n + 1) = n * n + 2 * n + 1 := by grind
 have hT1 : T <= 2 * n + 1 := by
  apply Int.not_lt.1
  intro hlt
  have := Int.mul_le_mul (show 2 * (n + 1) <= T by omega) (show 2 * (n + 1) <= T by omega) (by omega) (by omega)
  have e : 2 * (n + 1) * (2 * (n + 1)) = 4 * ((n + 1) * (n + 1)) := by grind
  omega
 have hTn : T * n <= (2 * n + 1) * n := Int.mul_le_mul_of_nonneg_right hT1 n0
 have hTn' : T * n = tx * n + ty * n + tz * n + ts * n := by rw [hT]; grind
 have e1 : (2 * n + 1) * n = 2 * (n * n) + n := by grind
 have nn : 2147483648 * n <= n * n := Int.mul_le_mul_of_nonneg_right hn n0
 have np : 0 < n * n := Int.mul_pos (by omega) (by omega)
 obtain ⟨S, hS⟩ : ∃ S, S = a * a + (b * b + (c * c + d * d)) := ⟨_, rfl⟩
 have pa := sq_nonneg a
 have pb := sq_nonneg b
 have pc := sq_nonneg c
 have pd := sq_nonneg d
 have S0 : 0 <= S := by omega
 have hnS : n * n * S = n * n * (a * a) + (n * n * (b * b) + (n * n * (c * c) + n * n * (d * d))) := by rw [hS, Int.mul_add, Int.mul_add, Int.mul_add]
 rw [h3] at h2
 clear hc tx2 ty2 tz2 ts2
 have up : n * n * S <= n * n * 18446744108069289992 := by omega
 have lo : n * n * 18446744056529682428 <= n * n * S := by omega
 have up' : S <= 18446744108069289992 := Int.le_of_mul_le_mul_left up np
 have lo' : 18446744056529682428 <= S := Int.le_of_mul_le_mul_left lo np
 have hpr : prods [a, b, c, d] [a, b, c, d] = S := by simp only [prods, Int.add_zero, hS]
 obtain ⟨p, q⟩ := isq_is S.toNat
 obtain ⟨l, hl⟩ : ∃ l : Nat, l = isq S.toNat := ⟨_, rfl⟩
 rw [<- hl] at p q
 have p' := Int.ofNat_le.2 p
 have q' := Int.ofNat_lt.2 q
 rw [Int.toNat_of_nonneg S0, Int.natCast_mul] at p' q'
 rw [Int.natCast_add] at q'
 have l1 : (4294967292 : Int) <= l := by
  apply Int.not_lt.1
  intro hlt
  have := Int.mul_le_mul (show (l : Int) + ((1 : Nat) : Int) <= 4294967292 by omega) (show (l : Int) + ((1 : Nat) : Int) <= 4294967292 by omega) (by omega) (by omega)
  omega
 have l2 : (l : Int) <= 4294967300 := by
  apply Int.not_lt.1
  intro hlt
  have := Int.mul_le_mul (show (4294967301 : Int) <= l by omega) (show (4294967301 : Int) <= l by omega) (by omega) (by omega)
  omega
 refine ⟨a, b, c, d, l, r0, r1, r2, r3, ?_, l1, l2, ⟨kx.1, kx.2.1⟩, ⟨ky.1, ky.2.1⟩, ⟨kz.1, kz.2.1⟩, ⟨ks.1, ks.2.1⟩, by omega, by omega⟩
 have gl : great (l : Int) = false := (not_great _).2 (by omega)
 unfold norm
 rw [if_neg (by simp), hpr, <- hl]
 simp [ga, gb, gc, gd, told, gl]
theorem dot2 {a b c d : Int} (ha : -8589934592 <= a /\ a <= 8589934592) (hb : -8589934592 <= b /\ b <= 8589934592) (hc : -4294967296 <= c /\ c <= 4294967296) (hd : -4294967296 <= d /\ d <= 4294967296) :
  ∃ r : Int, dot [a, b] [c, d] = some r /\ 4294967296 * r <= a * c + b * d /\ a * c + b * d < 4294967296 * r + 4294967296 /\ -17179869184 <= r /\ r <= 17179869184 := by
 have k1 := mul_in ha hc
 have k2 := mul_in hb hd
 have hv := div_is (a * c + b * d) 4294967296 (by omega)
 have e : prods [a, b] [c, d] / 4294967296 = (a * c + b * d) / 4294967296 := by simp only [prods, Int.add_zero]
 refine ⟨(a * c + b * d) / 4294967296, ?_, by omega, by omega, by omega, by omega⟩
 have g1 : [a, b].any great = false := by simp [(not_great a).2 (by omega), (not_great b).2 (by omega)]
 have g2 : [c, d].any great = false := by simp [(not_great c).2 (by omega), (not_great d).2 (by omega)]
 have g3 : great ((a * c + b * d) / 4294967296) = false := (not_great _).2 (by omega)
 unfold dot
 rw [if_neg (by simp), if_neg (by simp), g1, g2, e]
 simp [told, g3]
theorem add2 {q : Int} (h : -4294967296 <= q /\ q <= 4294967296) : add q q = some (2 * q) := by
 unfold add
 rw [(not_great q).2 (by omega), show q + q = 2 * q by omega]
 simp [told, (not_great (2 * q)).2 (by omega)]
theorem sub0 {q : Int} (h : -4294967296 <= q /\ q <= 4294967296) : sub 0 q = some (-q) := by
 unfold sub
 rw [(not_great q).2 (by omega), show (0 : Int) - q = -q by omega, (not_great 0).2 (by omega)]
 simp [told, (not_great (-q)).2 (by omega)]
theorem sub1 {q : Int} (h : -17179869184 <= q /\ q <= 17179869184) : sub 4294967296 q = some (4294967296 - q) := by
 unfold sub
 rw [(not_great q).2 (by omega), (not_great 4294967296).2 (by omega)]
 simp [told, (not_great (4294967296 - q)).2 (by omega)]
def Near (m R : Int) : Prop := (-4294967296 <= 4294967296 * m - R /\ 4294967296 * m - R <= 4294967296) /\ (-36893488147419103232 <= R /\ R <= 36893488147419103232) /\ (-8589934592 <= m /\ m <= 8589934592)
theorem near_off {r P : Int} (l : 4294967296 * r <= P) (u : P < 4294967296 * r + 4294967296) (hP : -18446744108069289992 <= P /\ P <= 18446744108069289992) : Near r P := by
 unfold Near
 omega
theorem near_dia {r P : Int} (l : 4294967296 * r <= P) (u : P < 4294967296 * r + 4294967296) (hP : 0 <= P /\ P <= 36893488216138579984) : Near (4294967296 - r) (18446744073709551616 - P) := by
 unfold Near
 omega
theorem two_le {a b : Int} : -(a * a + b * b) <= 2 * (a * b) /\ 2 * (a * b) <= a * a + b * b := by
 have h3 := sq_nonneg (a + b)
 have h4 := sq_nonneg (a - b)
 have e3 : (a + b) * (a + b) = a * a + b * b + 2 * (a * b) := by grind
 have e4 : (a - b) * (a - b) = a * a + b * b - 2 * (a * b) := by grind
 omega
theorem off_le {a b c d M : Int} (h : a * a + b * b + (c * c + d * d) <= M) : (-M <= 2 * (a * b) + 2 * (c * d) /\ 2 * (a * b) + 2 * (c * d) <= M) /\ (-M <= 2 * (a * b) + 2 * (c * -d) /\ 2 * (a * b) + 2 * (c * -d) <= M) := by
 have h1 := two_le (a := a) (b := b)
 have h2 := two_le (a := c) (b := d)
 rw [Int.mul_neg]
 omega
theorem dia_le {a b c d M : Int} (h : a * a + b * b + (c * c + d * d) <= M) : 0 <= 2 * (a * a) + 2 * (b * b) /\ 2 * (a * a) + 2 * (b * b) <= 2 * M := by
 have h1 := sq_nonneg a
 have h2 := sq_nonneg b
 have h3 := sq_nonneg c
 have h4 := sq_nonneg d
 omega
theorem neg_in {q : Int} (h : -4294967296 <= q /\ q <= 4294967296) : -4294967296 <= -q /\ -q <= 4294967296 := by omega
theorem dbl_in {q : Int} (h : -4294967296 <= q /\ q <= 4294967296) : -8589934592 <= 2 * q /\ 2 * q <= 8589934592 := by omega
theorem rows_near {w x y z : Int} (hw : -4294967296 <= w /\ w <= 4294967296) (hx : -4294967296 <= x /\ x <= 4294967296) (hy : -4294967296 <= y /\ y <= 4294967296) (hz : -4294967296 <= z /\ z <= 4294967296)
  (h2 : w * w + (x * x + (y * y + z * z)) - 18446744073709551616 <= 34359738376) : rowsBad w x y z = false /\
  Near (rowsAt0 w x y z) (18446744073709551616 - (2 * (y * y) + 2 * (z * z))) /\ Near (rowsAt1 w x y z) (2 * (x * y) + 2 * (w * -z)) /\ Near (rowsAt2 w x y z) (2 * (x * z) + 2 * (w * y)) /\
  Near (rowsAt3 w x y z) (2 * (x * y) + 2 * (w * z)) /\ Near (rowsAt4 w x y z) (18446744073709551616 - (2 * (x * x) + 2 * (z * z))) /\ Near (rowsAt5 w x y z) (2 * (y * z) + 2 * (w * -x)) /\
  Near (rowsAt6 w x y z) (2 * (x * z) + 2 * (w * -y)) /\ Near (rowsAt7 w x y z) (2 * (y * z) + 2 * (w * x)) /\ Near (rowsAt8 w x y z) (18446744073709551616 - (2 * (x * x) + 2 * (y * y))) := by
 have B0 := dia_le (a := y) (b := z) (c := w) (d := x) (M := 18446744108069289992) (by omega)
 have B1 := off_le (a := x) (b := y) (c := w) (d := z) (M := 18446744108069289992) (by omega)
 have B2 := off_le (a := x) (b := z) (c := w) (d := y) (M := 18446744108069289992) (by omega)
 have B4 := dia_le (a := x) (b := z) (c := w) (d := y) (M := 18446744108069289992) (by omega)
 have B5 := off_le (a := y) (b := z) (c := w) (d := x) (M := 18446744108069289992) (by omega)
 have B8 := dia_le (a := x) (b := y) (c := w) (d := z) (M := 18446744108069289992) (by omega)
 obtain ⟨r0, d0, l0, u0, k0, j0⟩ := dot2 (dbl_in hy) (dbl_in hz) hy hz
 obtain ⟨r1, d1, l1, u1, k1, j1⟩ := dot2 (dbl_in hx) (dbl_in hw) hy (neg_in hz)
 obtain ⟨r2, d2, l2, u2, k2, j2⟩ := dot2 (dbl_in hx) (dbl_in hw) hz hy
 obtain ⟨r3, d3, l3, u3, k3, j3⟩ := dot2 (dbl_in hx) (dbl_in hw) hy hz
 obtain ⟨r4, d4, l4, u4, k4, j4⟩ := dot2 (dbl_in hx) (dbl_in hz) hx hz
 obtain ⟨r5, d5, l5, u5, k5, j5⟩ := dot2 (dbl_in hy) (dbl_in hw) hz (neg_in hx)
 obtain ⟨r6, d6, l6, u6, k6, j6⟩ := dot2 (dbl_in hx) (dbl_in hw) hz (neg_in hy)
 obtain ⟨r7, d7, l7, u7, k7, j7⟩ := dot2 (dbl_in hy) (dbl_in hw) hz hx
 obtain ⟨r8, d8, l8, u8, k8, j8⟩ := dot2 (dbl_in hx) (dbl_in hy) hx hy
 simp only [Int.mul_assoc] at l0 u0 l1 u1 l2 u2 l3 u3 l4 u4 l5 u5 l6 u6 l7 u7 l8 u8
 unfold rowsBad rowsAt0 rowsAt1 rowsAt2 rowsAt3 rowsAt4 rowsAt5 rowsAt6 rowsAt7 rowsAt8
 simp only [add2 hw, add2 hx, add2 hy, add2 hz, sub0 hw, sub0 hx, sub0 hy, sub0 hz, Option.getD_some, Option.isNone_some, d0, d1, d2, d3, d4, d5, d6, d7, d8, sub1 ⟨k0, j0⟩, sub1 ⟨k4, j4⟩, sub1 ⟨k8, j8⟩]
 exact ⟨by simp, near_dia l0 u0 B0, near_off l1 u1 B1.2, near_off l2 u2 B2.1, near_off l3 u3 B1.1, near_dia l4 u4 B4, near_off l5 u5 B5.2, near_off l6 u6 B2.2, near_off l7 u7 B5.1, near_dia l8 u8 B8⟩
end WM
end
section
open Go.RowKit Fx
namespace WM
def Whole (w x y z : Int) : Prop := (-4294967296 <= w /\ w <= 4294967296) /\ (-4294967296 <= x /\ x <= 4294967296) /\ (-4294967296 <= y /\ y <= 4294967296) /\ (-4294967296 <= z /\ z <= 4294967296) /\
  -34359738376 <= w * w + (x * x + (y * y + z * z)) - 18446744073709551616 /\ w * w + (x * x + (y * y + z * z)) - 18446744073709551616 <= 34359738376
theorem dot3 {m0 m1 m2 a0 a1 a2 B : Int} (h0 : -8589934592 <= m0 /\ m0 <= 8589934592) (h1 : -8589934592 <= m1 /\ m1 <= 8589934592) (h2 : -8589934592 <= m2 /\ m2 <= 8589934592)
  (k0 : -B <= a0 /\ a0 <= B) (k1 : -B <= a1 /\ a1 <= B) (k2 : -B <= a2 /\ a2 <= B) (hB : B <= 1125899906842624) :
  ∃ r : Int, dot [m0, m1, m2] [a0, a1, a2] = some r /\ (4294967296 * r <= m0 * a0 + (m1 * a1 + m2 * a2) /\ m0 * a0 + (m1 * a1 + m2 * a2) < 4294967296 * r + 4294967296) /\ (-(6 * B + 1) <= r /\ r <= 6 * B + 1) := by
 have j0 := mul_in h0 k0
 have j1 := mul_in h1 k1
 have j2 := mul_in h2 k2
 have e : prods [m0, m1, m2] [a0, a1, a2] / 4294967296 = (m0 * a0 + (m1 * a1 + m2 * a2)) / 4294967296 := by simp only [prods, Int.add_zero]
 have g1 : [m0, m1, m2].any great = false := by simp [(not_great m0).2 (by omega), (not_great m1).2 (by omega), (not_great m2).2 (by omega)]
 have g2 : [a0, a1, a2].any great = false := by simp [(not_great a0).2 (by omega), (not_great a1).2 (by omega), (not_great a2).2 (by omega)]
 have hX : -(25769803776 * B) <= m0 * a0 + (m1 * a1 + m2 * a2) /\ m0 * a0 + (m1 * a1 + m2 * a2) <= 25769803776 * B := by omega
 generalize m0 * a0 + (m1 * a1 + m2 * a2) = X at *
 refine ⟨X / 4294967296, ?_, by omega, by omega⟩
 have g3 : great (X / 4294967296) = false := (not_great _).2 (by omega)
 unfold dot
 rw [if_neg (by simp), if_neg (by simp), g1, g2, e]
 simp [told, g3]
end WM
end
section
open Go.RowKit Fx
structure M9.Fit (m : M9) : Prop where
 h0 : -8589934592 <= m.a0 /\ m.a0 <= 8589934592
 h1 : -8589934592 <= m.a1 /\ m.a1 <= 8589934592
 h2 : -8589934592 <= m.a2 /\ m.a2 <= 8589934592
 h3 : -8589934592 <= m.a3 /\ m.a3 <= 8589934592
 h4 : -8589934592 <= m.a4 /\ m.a4 <= 8589934592
 h5 : -8589934592 <= m.a5 /\ m.a5 <= 8589934592
 h6 : -8589934592 <= m.a6 /\ m.a6 <= 8589934592
 h7 : -8589934592 <= m.a7 /\ m.a7 <= 8589934592
 h8 : -8589934592 <= m.a8 /\ m.a8 <= 8589934592
theorem rows_fit {q : Q4} (h : WM.Whole q.w q.x q.y q.z) : rowsB q = false /\ (rowsM q).Fit := by
 obtain ⟨hw, hx, hy, hz, hN1, hN2⟩ := id h
 obtain ⟨hbad, n0, n1, n2, n3, n4, n5, n6, n7, n8⟩ := WM.rows_near hw hx hy hz hN2
 refine ⟨hbad, ?_⟩
 unfold rowsM rowsB
 rw [hbad]
 exact ⟨n0.2.2, n1.2.2, n2.2.2, n3.2.2, n4.2.2, n5.2.2, n6.2.2, n7.2.2, n8.2.2⟩
theorem turn_some {m : M9} (h : m.Fit) {x : Pt} {B : Int} (hx : x.inB B = true) (hB : B <= 1125899906842624) : ∃ r, m.turn x = some r /\ r.inB (6 * B + 1) = true := by
 obtain ⟨k0, k1, k2⟩ := (Pt.inB_iff _ _).1 hx
 obtain ⟨r0, e0, _, b0⟩ := WM.dot3 h.h0 h.h1 h.h2 k0 k1 k2 hB
 obtain ⟨r1, e1, _, b1⟩ := WM.dot3 h.h3 h.h4 h.h5 k0 k1 k2 hB
 obtain ⟨r2, e2, _, b2⟩ := WM.dot3 h.h6 h.h7 h.h8 k0 k1 k2 hB
 refine ⟨⟨r0, r1, r2⟩, ?_, (Pt.inB_iff _ _).2 ⟨b0, b1, b2⟩⟩
 unfold M9.turn
 rw [e0, e1, e2]; rfl
theorem times_in {p : Pt} {B n : Int} (h : p.inB B = true) (hn : 0 <= n) (hb : B * n <= 9223372036854775807) : p.times n = ⟨p.x * n, p.y * n, p.z * n⟩ /\ (p.times n).inB (B * n) = true := by
 obtain ⟨k0, k1, k2⟩ := (Pt.inB_iff _ _).1 h
 have j0 := WM.mul_in k0 (show -n <= n /\ n <= n by omega)
 have j1 := WM.mul_in k1 (show -n <= n /\ n <= n by omega)
 have j2 := WM.mul_in k2 (show -n <= n /\ n <= n by omega)
 have e : p.times n = ⟨p.x * n, p.y * n, p.z * n⟩ := by
  unfold Pt.times
  congr 1
  ·rw [IntKind.wrap_i64]; omega
  ·rw [IntKind.wrap_i64]; omega
  ·rw [IntKind.wrap_i64]; omega
 rw [e]
 exact ⟨rfl, (Pt.inB_iff _ _).2 ⟨j0, j1, j2⟩⟩
theorem add_some {x y : Int} (h : -4611686018427387903 <= x + y /\ x + y <= 4611686018427387903) (hx : -4611686018427387903 <= x /\ x <= 4611686018427387903) (hy : -4611686018427387903 <= y /\ y <= 4611686018427387903) : add x y = some (x + y) := by
 unfold add
 simp [told, (not_great x).2 (by omega), (not_great y).2 (by omega), (not_great (x + y)).2 (by omega)]
theorem addO_some {x y : Pt} {A B : Int} (hx : x.inB A = true) (hy : y.inB B = true) (h : A + B <= 4611686018427387903) (hA : 0 <= A) (hB : 0 <= B) : x.addO y = some ⟨x.x + y.x, x.y + y.y, x.z + y.z⟩ := by
 obtain ⟨k0, k1, k2⟩ := (Pt.inB_iff _ _).1 hx
 obtain ⟨j0, j1, j2⟩ := (Pt.inB_iff _ _).1 hy
 unfold Pt.addO
 rw [add_some (by omega) (by omega) (by omega), add_some (by omega) (by omega) (by omega), add_some (by omega) (by omega) (by omega)]; rfl
theorem point_some {m : M9} (h : m.Fit) {t p : Pt} (ht : t.inB 5497558138880 = true) (hp : p.inB 65536 = true) : ∃ u : Pt, m.turn ⟨p.x * 1048576, p.y * 1048576, p.z * 1048576⟩ = some u /\ u.inB 412316860417 = true /\ m.ptB t p = false /\ m.ptV t p = ⟨(u.x + t.x) / 1048576, (u.y + t.y) / 1048576, (u.z + t.z) / 1048576⟩ /\ (m.ptV t p).inB 8388608 = true := by
 obtain ⟨e1, hb⟩ := times_in (n := 1048576) hp (by decide) (by decide)
 rw [e1] at hb
 obtain ⟨u, e2, hu⟩ := turn_some h hb (by decide)
 have hu : u.inB 412316860417 = true := inB_mono hu (by decide)
 have e3 := addO_some hu ht (by decide) (by decide) (by decide)
 refine ⟨u, e2, hu, ?_, ?_⟩
 ·unfold M9.ptB M9.at1
  rw [e1, e2]
  simp [e3]
 ·have e4 : m.ptV t p = ⟨(u.x + t.x) / 1048576, (u.y + t.y) / 1048576, (u.z + t.z) / 1048576⟩ := by
   unfold M9.ptV M9.at2 M9.at1
   rw [e1, e2]
   simp only [Option.getD_some, e3]
   rfl
  refine ⟨e4, ?_⟩
  rw [e4]
  obtain ⟨k0, k1, k2⟩ := (Pt.inB_iff _ _).1 hu
  obtain ⟨j0, j1, j2⟩ := (Pt.inB_iff _ _).1 ht
  rw [Pt.inB_iff]
  dsimp only
  omega
theorem longF_is (n : Nat) (p : Pt) (h : p.inB 1048576 = true) : (longF n p).inB 1048576 = true /\ ∃ j : Nat, longF n p = ⟨2 ^ j * p.x, 2 ^ j * p.y, 2 ^ j * p.z⟩ := by
 induction n generalizing p with
 | zero => exact ⟨h, 0, by simp [longF]⟩
 | succ n ih =>
  by_cases hq : p.inB 524288 = true
  ·have hI := (Pt.inB_iff _ _).1 hq
   have e : p.plus p = ⟨2 * p.x, 2 * p.y, 2 * p.z⟩ := by
    unfold Pt.plus
    congr 1
    ·rw [IntKind.wrap_i64]; omega
    ·rw [IntKind.wrap_i64]; omega
    ·rw [IntKind.wrap_i64]; omega
   obtain ⟨h1, j, h2⟩ := ih (p.plus p) (by rw [e, Pt.inB_iff]; dsimp only; omega)
   have e9 : longF (n + 1) p = longF n (p.plus p) := by simp [longF, hq]
   rw [e9]
   refine ⟨h1, j + 1, ?_⟩
   rw [h2, e]
   simp only [Int.pow_succ, Int.mul_assoc]
  ·have e9 : longF (n + 1) p = p := by simp [longF, hq]
   rw [e9]
   exact ⟨h, 0, by simp⟩
theorem long_is (p : Pt) (h : p.inB 1048576 = true) : p.long.inB 1048576 = true /\ ∃ j : Nat, p.long = ⟨2 ^ j * p.x, 2 ^ j * p.y, 2 ^ j * p.z⟩ := by
 unfold Pt.long
 split
 ·exact ⟨h, 0, by simp⟩
 ·exact longF_is 20 p h
theorem dir_some {m : M9} (h : m.Fit) {p : Pt} (hp : p.inB 1048576 = true) : m.dirB p = false := by
 obtain ⟨e1, hb⟩ := times_in (n := 4096) (long_is p hp).1 (by decide) (by decide)
 obtain ⟨u, e2, hu⟩ := turn_some h hb (by decide)
 unfold M9.dirB
 rw [e2]; rfl
theorem all_win {L : List Pt} {m n : Int} (h : ∀ p ∈ L, p.inB m = true) (hm : m <= n) (h1 : 0 <= n) (h2 : n <= 9223372036854775807) : (L.all fun p => p.win n) = true := by
 rw [List.all_eq_true]
 intro p hp
 rw [win_in _ _ h1 h2]
 exact inB_mono (h p hp) hm
theorem place_ok {t : Pt} {q : Q4} {P A E : List Pt} (hq : WM.Whole q.w q.x q.y q.z) (ht : t.inB 5497558138880 = true) (h0 : 0 < P.length) (hP : ∀ p ∈ P, p.inB 65536 = true) (hA : ∀ p ∈ A, p.inB 1048576 = true) (hE : ∀ p ∈ E, p.inB 1048576 = true) : placeOk t q P A E = true := by
 obtain ⟨hb, hf⟩ := rows_fit hq
 have b1 : P.any ((rowsM q).ptB t) = false := by
  rw [List.any_eq_false]
  intro p hp
  obtain ⟨_, _, _, e, _⟩ := point_some hf ht (hP p hp)
  simp [e]
 have b2 : A.any (rowsM q).dirB = false := by
  rw [List.any_eq_false]
  intro p hp
  simp [dir_some hf (hA p hp)]
 have b3 : E.any (rowsM q).dirB = false := by
  rw [List.any_eq_false]
  intro p hp
  simp [dir_some hf (hE p hp)]
 have n1 : nearP (P.map ((rowsM q).ptV t)) = true := by
  refine all_win (m := 8388608) (fun p hp => ?_) (Int.le_refl _) (by decide) (by decide)
  obtain ⟨x, hx, rfl⟩ := List.mem_map.1 hp
  obtain ⟨_, _, _, _, _, e⟩ := point_some hf ht (hP x hx)
  exact e
 unfold placeOk placeableP badP
 rw [all_win hP (by decide) (by decide) (by decide), all_win hA (by decide) (by decide) (by decide), all_win hE (by decide) (by decide) (by decide), hb, b1, b2, b3, n1, decide_eq_true h0]
 rfl
end
section
open Go.RowKit Fx
def sgn (b : Bool) (x : Int) : Int := cond b (-x) x
structure M9.Dg (m : M9) (b0 b1 b2 : Bool) : Prop where
 h0 : m.a0 = sgn b0 4294967296
 h1 : m.a1 = 0
 h2 : m.a2 = 0
 h3 : m.a3 = 0
 h4 : m.a4 = sgn b1 4294967296
 h5 : m.a5 = 0
 h6 : m.a6 = 0
 h7 : m.a7 = 0
 h8 : m.a8 = sgn b2 4294967296
theorem short_g {p : Pt} (h0 : p ≠ Pt.O) (h : p.short = p) : p.g = 1 /\ p.inB 1048576 = true := by
 refine ⟨?_, h ▸ short_in p⟩
 rw [<- h]
 unfold Pt.short
 split
 ·exact low_g (halveF_ne _ _ (low_ne h0))
 ·rename_i hb
  exfalso
  apply h0
  rw [<- h]
  unfold Pt.short
  rw [if_neg hb]
end
end Go.Proofs.Ytccdgpijjgeedaa
