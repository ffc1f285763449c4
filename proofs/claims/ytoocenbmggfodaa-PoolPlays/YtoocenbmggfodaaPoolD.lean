/- Going through a pool. -/
import Derived.Test.YtoocenbmggfodaaRangeI
import Derived.Test.YtoocenbmggfodaaPoolB
import Derived.Scope
namespace Go.Proofs.Ytoocenbmggfodaa
open Go.RowKit Go.Shelf
attribute [local go_sem] Oper.semAt_some
set_option linter.unusedVariables false

/-- A place that has a thing. -/
abbrev Live (L : List Pl) : Type := { i : Fin L.length // (at_ L i.val).has = true }
def lives (L : List Pl) : List (Fin L.length) → List (Live L)
  | [] => []
  | i :: r => if h : (at_ L i.val).has = true then ⟨i, h⟩ :: lives L r else lives L r
theorem lives_append (L : List Pl) : ∀ (a b : List (Fin L.length)), lives L (a ++ b) = lives L a ++ lives L b
  | [], b => rfl
  | i :: r, b => by
    simp only [List.cons_append, lives]
    split
    · rw [lives_append L r b]; rfl
    · exact lives_append L r b
theorem lives_length (L : List Pl) : ∀ (a : List (Fin L.length)), (lives L a).length ≤ a.length
  | [] => Nat.le_refl _
  | i :: r => by
    have := lives_length L r
    simp only [lives]
    split <;> simp <;> omega
def handleOf (p : Pl) (i : Nat) : Int := p.age * 65536 + (i : Int) + 1
def encA (L : List Pl) (x : Live L) : Array Value := #[.int .i64 (handleOf (at_ L x.1.val) x.1.val), .int .i64 (at_ L x.1.val).x]

theorem KeepsFrom.up {A B : Nat} {X Y : World} (h : KeepsFrom A X Y) (hAB : A ≤ B) : KeepsFrom B X Y := ⟨h.size, fun k o hk hX ho => h.same k o (Nat.le_trans hAB hk) hX ho⟩
theorem keep_own {S : Nat → Prop} {W A B : World} {n : Nat} {row : Option Nat} (h : Keep S W A) (hg : A.grownBy B row) (hr : ∀ r, row = some r → n ≤ r ∧ ∃ o : Obj, A.heap[r]? = some o ∧ o.isCells = false) : Keep S W B := fun q v hq hv => by
  have hA := h q v hq hv
  refine hg.cell hA (fun e => ?_)
  obtain ⟨_, o, ho, hc⟩ := hr _ e.symm
  unfold World.cell? at hA
  rw [ho] at hA
  cases o <;> simp_all [Obj.isCells]
theorem scope_in {n : Nat} {P : Program} {c : Code} {Q : Exit → Act → World → Prop} {a : Act} {w : World} (h : c.wpIn Fence.wide n P (Exit.noGoto Q) a w) : (Code.scope c).wpIn Fence.wide n P Q a w :=
  (wpIn_wide (n := n)).2 (wp_scope_straight ((wpIn_wide (n := n)).1 h))
namespace RI
theorem roundIn_any {m : Nat} (m' : Nat) {P : Program} {l l2 : Nat} {f : FuncId} {tmps : Array Value} {assign body : Code} {w : World} {R : Ending → World → Prop} (h : RoundIn Fence.wide m P l f tmps assign body w R) : RoundIn (Fence.wide.inRound l2) m' P l f tmps assign body w R :=
  ⟨h.1, fun c cs _ => h.2 c cs (room_wide _)⟩
/-- What a round that is told to says, in a region's words. -/
theorem told_round {m m' l l2 : Nat} {P : Program} {f : FuncId} {tmps : Array Value} {assign body : Code} {w : World} {J Jx Kp Kf : World → Prop} {val : (Nat → Nat) → Nat → Value} {γ : Nat → Nat} {L : Nat → Bool} {i : Nat} {d : Prop} {G : (Nat → Nat) → (Nat → Bool) → World → Prop}
    (h : RoundIn Fence.wide m P l f tmps assign body w fun e w' => (e = .returned (.bool true) ∧ J w' ∧ Kp w' ∧ Kf w') ∨ (e = .returned (.bool false) ∧ Jx w' ∧ Kf w'))
    (hv : ∀ b : Nat, ∀ j, L j = true → val (fun x => if x = i then b else γ x) j = val γ j) (hi : ∀ b : Nat, val (fun x => if x = i then b else γ x) i = .bool (decide (b = 1)))
    (hG1 : ∀ w', J w' → Kp w' → Kf w' → G (fun x => if x = i then 1 else γ x) (more L i) w') (hG0 : ∀ w', Jx w' → Kf w' → G (fun x => if x = i then 0 else γ x) (more L i) w') :
    RoundIn (Fence.wide.inRound l2) m' P l f tmps assign body w fun e w' => ∃ v γ', e = .returned v ∧ (∀ j, L j = true → val γ' j = val γ j) ∧ (d → v = val γ' i) ∧ G γ' (more L i) w' := by
  refine (roundIn_any (l2 := l2) m' h).mono ?_
  rintro e w' (⟨rfl, a, b, c⟩ | ⟨rfl, a, c⟩)
  · exact ⟨_, _, rfl, hv 1, fun _ => (hi 1).symm, hG1 w' a b c⟩
  · exact ⟨_, _, rfl, hv 0, fun _ => (hi 0).symm, hG0 w' a c⟩
end RI

set_option maxRecDepth 100000 in
set_option maxHeartbeats 4000000 in
theorem all_tells (n : Nat) (hn : 6 ≤ n) (Bs pp pl : Nat) (L0 : List Pl) (w : World) (hp : IsPool w pp pl L0) (hBs : w.cell? ⟨Bs, 0, none⟩ = some (.pointer (some ⟨pp, 0, none⟩))) :
    Tells n Try.prog 31 #[.pointer (some ⟨Bs, 0, none⟩)] (encA L0) (Keep (fun b => b = Bs ∨ b = pp ∨ b = pl ∨ w.heap.size ≤ b)) (fun ys => ys = lives L0 (ups L0.length L0.length)) (fun pre => ∃ k, k ≤ L0.length ∧ pre = lives L0 (ups L0.length k)) L0.length w := by
  intro l J Jx W hb hJ hJx hY h0
  have h1 : 1 ≤ n := by omega
  have hpW := hp.below hb
  have hBW : W.cell? ⟨Bs, 0, none⟩ = some (.pointer (some ⟨pp, 0, none⟩)) := (hb.cell (World.block_lt_of_cell? _ _ hBs)).trans hBs
  have hBlt : Bs < W.heap.size := World.block_lt_of_cell? _ _ hBW
  have hplt : pp < W.heap.size := hpW.plt
  have hllt := hpW.lt
  have hnW := hb.size
  refine callsIn_of_wp_marks Try.func31 rfl trivial ?_ rfl
  simp only [Try.ntmps31, List.size_toArray, List.length_cons, List.length_nil, Nat.reduceAdd, Nat.reduceSub, Array.replicate_succ, Array.replicate_zero, List.push_toArray, List.append_toArray, List.nil_append, List.cons_append]
  gi_wp2
  refine scope_in ?_
  gi_wp2
  refine wpIn_label ?_
  gi_wp2_with (refine ⟨trivial, ?_⟩; gi_at_call 26; refine (callsIn_wide.2 (each_in _ _)).mono ?_; rintro e w' ⟨rfl, rfl⟩)
  obtain ⟨S0, hS0⟩ : ∃ n, n = W.heap.size := ⟨_, rfl⟩
  obtain ⟨n0, hn0⟩ : ∃ n, n = w.heap.size := ⟨_, rfl⟩
  obtain ⟨W0, hW0⟩ : ∃ W0, W0 = (W.alloc (.cells #[.func (.yield l) #[] #[]] 35)).alloc (.cells #[.pointer (some ⟨pp, 0, none⟩)] 24) := ⟨_, rfl⟩
  have hsz : W0.heap.size = S0 + 2 := by rw [hW0, hS0]; simp
  have hB0 : Below W.heap.size W W0 := by rw [hW0]; exact ((Below.refl _ W).alloc (Nat.le_refl _) _).alloc (by simp) _
  have ht0 : W0.cell? ⟨S0, 0, none⟩ = some (.func (.yield l) #[] #[]) := by rw [hW0, hS0]; simp [go_sem]
  have hbs : W0.cell? ⟨S0 + 1, 0, none⟩ = some (.pointer (some ⟨pp, 0, none⟩)) := by rw [hW0, hS0]; simp [go_sem]
  have hJ0 : J [] W0 := by rw [hW0]; exact hJ.alloc _ (hJ.alloc _ h0)
  rw [← hW0, ← hS0]
  rw [← hn0] at hY
  rw [← hn0] at hnW
  rw [← hS0] at hJ hJx
  have hSl : W.heap.size ≤ S0 := by omega
  have hSr : S0 ≤ W.heap.size := by omega
  have hp0 := hpW.below hB0
  clear hW0 hS0
  refine range_by h1 (gf := 30) (lb := #[.pointer (some ⟨S0 + 1, 0, none⟩)]) rfl (enters_of Try.func30 (by kernel_rfl) rfl)
    (tells_of (each_stops (n - 1) (by omega) (S0 + 1) pp pl L0.length hp.room W0 hbs hp0.slice)) (fun h k => Keep.trans h k) (fun _ _ _ o' _ h hc => keep_b o' h hc) (fun _ => rfl)
    (fun pre V => J (lives L0 pre) V ∧ Keep (fun b => b = Bs ∨ b = pp ∨ b = pl ∨ n0 ≤ b) W0 V)
    (fun c pre V => c = .exit 0 ∧ Jx (lives L0 pre) V)
    (fun s A B row hs hg hr => ⟨hJ _ A B row hs.1 hg (fun r e => ⟨by have := (hr r e).1; omega, (hr r e).2⟩), keep_own hs.2 hg hr⟩)
    (fun c s A B row hs hg hr => ⟨hs.1, hJx _ A B row hs.2 hg (fun r e => ⟨by have := (hr r e).1; omega, (hr r e).2⟩)⟩)
    ⟨hJ0, Keep.refl _ _⟩
    (fun k => { tmps := #[.func (.yield l) #[] #[], .pointer (some ⟨Bs, 0, none⟩), .pointer (some ⟨S0, 0, none⟩), .int .i64 (k.val : Int), .pointer (some ⟨pl, k.val * 3, none⟩), .pointer (some ⟨pp, 0, none⟩), .func (.func 30) #[] #[.pointer (some ⟨S0 + 1, 0, none⟩)], .int .i64 (k.val : Int), .pointer (some ⟨pl, k.val * 3, none⟩), undef, undef, undef, undef, undef, undef, undef, undef, undef, undef, undef, undef, undef, undef, undef, undef, undef, undef, undef, undef], defers := [] }) ?assign ?body ?done ?stop
  case assign =>
    intro l x W K hK
    unfold enc2
    gi_wp2
    exact hK
  case body =>
    rintro l2 pre ⟨k, hk⟩ V ⟨hj, hkp⟩ hlen
    have c0 := hkp _ _ (Or.inr (Or.inr (Or.inl rfl))) (hp0.age k hk)
    have c1 := hkp _ _ (Or.inr (Or.inr (Or.inl rfl))) (hp0.has k hk)
    have c2 := hkp _ _ (Or.inr (Or.inr (Or.inl rfl))) (hp0.x k hk)
    have ct := hkp _ _ (Or.inr (Or.inr (Or.inr (by show n0 ≤ S0; omega)))) ht0
    obtain ⟨hok0, hok1, _⟩ := hp0.ok k hk
    rw [show L0[k]?.getD default = at_ L0 k from rfl] at c0 c1 c2 hok0 hok1
    have hkr : k < 1024 := Nat.lt_of_lt_of_le hk hp.room
    cases hh : (at_ L0 k).has with
    | false =>
      rw [hh] at c1
      have hlv : lives L0 (pre ++ [⟨k, hk⟩]) = lives L0 pre := by rw [lives_append]; simp [lives, hh]
      have HLV : Hid _ := hlv
      clear hlv
      gi_wp2
      exact ⟨(KeepsOthers.refl _).from _, Keep.refl _ _, by rw [HLV.out]; exact hj, hkp⟩
    | true =>
      rw [hh] at c1
      obtain ⟨X, hX⟩ : ∃ X : Live L0, X = ⟨⟨k, hk⟩, hh⟩ := ⟨_, rfl⟩
      have hlv : lives L0 (pre ++ [⟨k, hk⟩]) = lives L0 pre ++ [X] := by rw [lives_append, hX]; simp [lives, hh]
      obtain ⟨fn, tmps, assign, body, hy, hR⟩ := hY (lives L0 pre) X V.drew (hJ _ V V.drew none hj ⟨rfl, rfl, rfl, Nat.le_refl _, fun _ _ _ => rfl⟩ (fun r e => by cases e)) (Nat.lt_of_le_of_lt (lives_length _ _) hlen)
      rw [show encA L0 X = #[.int .i64 ((at_ L0 k).age * 65536 + (k : Int) + 1), .int .i64 (at_ L0 k).x] by rw [hX]; rfl] at hy
      have hKd : KeepsOthers V V.drew := KeepsOthers.drew _
      generalize (at_ L0 k).age = ag at *
      generalize (at_ L0 k).x = px at *
      have HLV : Hid _ := hlv
      have HY : Hid _ := hy
      clear hlv hX hy hh
      gi_wp2
      have hlv := HLV.out
      have hy := HY.out
      refine RI.region_by (fun _ => trivial) (fun γ j => match j with | 0 => .func (.yield l) #[] #[] | 1 => .int .i64 (k : Int) | 2 => .pointer (some ⟨pl, k * 3, none⟩) | 3 => .pointer (some ⟨pl, k * 3, none⟩) | 4 => .pointer (some ⟨pl, k * 3, none⟩) | 5 => .int .i64 ag | 6 => .int .i64 (ag * 65536 + (k : Int) + 1) | 7 => .pointer (some ⟨pl, k * 3, none⟩) | 8 => .pointer (some ⟨pl, k * 3, none⟩) | 9 => .pointer (some ⟨pl, k * 3 + 2, none⟩) | 10 => .int .i64 px | 11 => .bool (decide (γ 11 = 1)) | 12 => .bool (!decide (γ 11 = 1)) | 13 => .bool (!decide (γ 11 = 1)) | _ => undef) (fun γ L v => (L 11 = false ∧ v = V.drew) ∨ (L 11 = true ∧ ((γ 11 = 1 ∧ J (lives L0 pre ++ [X]) v ∧ Keep (fun b => b = Bs ∨ b = pp ∨ b = pl ∨ n0 ≤ b) V.drew v ∧ KeepsFrom (n0 + 2) V.drew v) ∨ (γ 11 = 0 ∧ Jx (lives L0 pre ++ [X]) v ∧ KeepsFrom (n0 + 2) V.drew v)))) (by kernel_rfl) (by kernel_rfl) (by kernel_rfl) (by kernel_rfl) (fun _ => 0) ?_ ?_ ?_
      · exact Or.inl ⟨rfl, rfl⟩
      · generalize hD : RI.dstOf _ = D
        generalize hWA : RI.waitsFor _ = A
        generalize hZ : Act.mk _ _ = Z
        have d0 : D 0 = some 16 := by rw [← hD]; rfl
        have d1 : D 1 = some 17 := by rw [← hD]; rfl
        have d2 : D 2 = some 18 := by rw [← hD]; rfl
        have d3 : D 3 = some 19 := by rw [← hD]; rfl
        have d4 : D 4 = some 20 := by rw [← hD]; rfl
        have d5 : D 5 = some 21 := by rw [← hD]; rfl
        have d6 : D 6 = some 22 := by rw [← hD]; rfl
        have d7 : D 7 = some 23 := by rw [← hD]; rfl
        have d8 : D 8 = some 24 := by rw [← hD]; rfl
        have d9 : D 9 = some 25 := by rw [← hD]; rfl
        have d10 : D 10 = some 26 := by rw [← hD]; rfl
        have d11 : D 11 = some 27 := by rw [← hD]; rfl
        have d12 : D 12 = some 28 := by rw [← hD]; rfl
        have d13 : D 13 = some 15 := by rw [← hD]; rfl
        have R2 : ∀ (γ : Nat → Nat) (L : Nat → Bool) (a : Act) (w : World), RI.Held D A (fun γ j => match j with | 0 => .func (.yield l) #[] #[] | 1 => .int .i64 (k : Int) | 2 => .pointer (some ⟨pl, k * 3, none⟩) | 3 => .pointer (some ⟨pl, k * 3, none⟩) | 4 => .pointer (some ⟨pl, k * 3, none⟩) | 5 => .int .i64 ag | 6 => .int .i64 (ag * 65536 + (k : Int) + 1) | 7 => .pointer (some ⟨pl, k * 3, none⟩) | 8 => .pointer (some ⟨pl, k * 3, none⟩) | 9 => .pointer (some ⟨pl, k * 3 + 2, none⟩) | 10 => .int .i64 px | 11 => .bool (decide (γ 11 = 1)) | 12 => .bool (!decide (γ 11 = 1)) | 13 => .bool (!decide (γ 11 = 1)) | _ => undef) (fun γ L v => (L 11 = false ∧ v = V.drew) ∨ (L 11 = true ∧ ((γ 11 = 1 ∧ J (lives L0 pre ++ [X]) v ∧ Keep (fun b => b = Bs ∨ b = pp ∨ b = pl ∨ n0 ≤ b) V.drew v ∧ KeepsFrom (n0 + 2) V.drew v) ∨ (γ 11 = 0 ∧ Jx (lives L0 pre ++ [X]) v ∧ KeepsFrom (n0 + 2) V.drew v)))) Z γ L a w → a.tmps[2]? = some (.pointer (some ⟨S0, 0, none⟩)) := fun γ L a w hH => (hH.rest 2 (by rw [← hD]; exact RI.dst_free (by kernel_rfl))).trans (by rw [← hZ]; rfl)
        have R3 : ∀ (γ : Nat → Nat) (L : Nat → Bool) (a : Act) (w : World), RI.Held D A (fun γ j => match j with | 0 => .func (.yield l) #[] #[] | 1 => .int .i64 (k : Int) | 2 => .pointer (some ⟨pl, k * 3, none⟩) | 3 => .pointer (some ⟨pl, k * 3, none⟩) | 4 => .pointer (some ⟨pl, k * 3, none⟩) | 5 => .int .i64 ag | 6 => .int .i64 (ag * 65536 + (k : Int) + 1) | 7 => .pointer (some ⟨pl, k * 3, none⟩) | 8 => .pointer (some ⟨pl, k * 3, none⟩) | 9 => .pointer (some ⟨pl, k * 3 + 2, none⟩) | 10 => .int .i64 px | 11 => .bool (decide (γ 11 = 1)) | 12 => .bool (!decide (γ 11 = 1)) | 13 => .bool (!decide (γ 11 = 1)) | _ => undef) (fun γ L v => (L 11 = false ∧ v = V.drew) ∨ (L 11 = true ∧ ((γ 11 = 1 ∧ J (lives L0 pre ++ [X]) v ∧ Keep (fun b => b = Bs ∨ b = pp ∨ b = pl ∨ n0 ≤ b) V.drew v ∧ KeepsFrom (n0 + 2) V.drew v) ∨ (γ 11 = 0 ∧ Jx (lives L0 pre ++ [X]) v ∧ KeepsFrom (n0 + 2) V.drew v)))) Z γ L a w → a.tmps[3]? = some (.int .i64 (k : Int)) := fun γ L a w hH => (hH.rest 3 (by rw [← hD]; exact RI.dst_free (by kernel_rfl))).trans (by rw [← hZ]; rfl)
        have R4 : ∀ (γ : Nat → Nat) (L : Nat → Bool) (a : Act) (w : World), RI.Held D A (fun γ j => match j with | 0 => .func (.yield l) #[] #[] | 1 => .int .i64 (k : Int) | 2 => .pointer (some ⟨pl, k * 3, none⟩) | 3 => .pointer (some ⟨pl, k * 3, none⟩) | 4 => .pointer (some ⟨pl, k * 3, none⟩) | 5 => .int .i64 ag | 6 => .int .i64 (ag * 65536 + (k : Int) + 1) | 7 => .pointer (some ⟨pl, k * 3, none⟩) | 8 => .pointer (some ⟨pl, k * 3, none⟩) | 9 => .pointer (some ⟨pl, k * 3 + 2, none⟩) | 10 => .int .i64 px | 11 => .bool (decide (γ 11 = 1)) | 12 => .bool (!decide (γ 11 = 1)) | 13 => .bool (!decide (γ 11 = 1)) | _ => undef) (fun γ L v => (L 11 = false ∧ v = V.drew) ∨ (L 11 = true ∧ ((γ 11 = 1 ∧ J (lives L0 pre ++ [X]) v ∧ Keep (fun b => b = Bs ∨ b = pp ∨ b = pl ∨ n0 ≤ b) V.drew v ∧ KeepsFrom (n0 + 2) V.drew v) ∨ (γ 11 = 0 ∧ Jx (lives L0 pre ++ [X]) v ∧ KeepsFrom (n0 + 2) V.drew v)))) Z γ L a w → a.tmps[4]? = some (.pointer (some ⟨pl, k * 3, none⟩)) := fun γ L a w hH => (hH.rest 4 (by rw [← hD]; exact RI.dst_free (by kernel_rfl))).trans (by rw [← hZ]; rfl)
        have A_3_2 : A 3 2 := by rw [← hWA]; exact ⟨_, rfl, ⟨2, .data⟩, by simp, rfl, rfl⟩
        have A_4_3 : A 4 3 := by rw [← hWA]; exact ⟨_, rfl, ⟨3, .data⟩, by simp, rfl, rfl⟩
        have A_5_4 : A 5 4 := by rw [← hWA]; exact ⟨_, rfl, ⟨4, .data⟩, by simp, rfl, rfl⟩
        have A_6_1 : A 6 1 := by rw [← hWA]; exact ⟨_, rfl, ⟨1, .data⟩, by simp, rfl, rfl⟩
        have A_6_5 : A 6 5 := by rw [← hWA]; exact ⟨_, rfl, ⟨5, .data⟩, by simp, rfl, rfl⟩
        have A_8_7 : A 8 7 := by rw [← hWA]; exact ⟨_, rfl, ⟨7, .data⟩, by simp, rfl, rfl⟩
        have A_9_8 : A 9 8 := by rw [← hWA]; exact ⟨_, rfl, ⟨8, .data⟩, by simp, rfl, rfl⟩
        have A_10_9 : A 10 9 := by rw [← hWA]; exact ⟨_, rfl, ⟨9, .data⟩, by simp, rfl, rfl⟩
        have A_11_0 : A 11 0 := by rw [← hWA]; exact ⟨_, rfl, ⟨0, .data⟩, by simp, rfl, rfl⟩
        have A_11_6 : A 11 6 := by rw [← hWA]; exact ⟨_, rfl, ⟨6, .data⟩, by simp, rfl, rfl⟩
        have A_11_10 : A 11 10 := by rw [← hWA]; exact ⟨_, rfl, ⟨10, .data⟩, by simp, rfl, rfl⟩
        have A_12_11 : A 12 11 := by rw [← hWA]; exact ⟨_, rfl, ⟨11, .data⟩, by simp, rfl, rfl⟩
        have A_13_12 : A 13 12 := by rw [← hWA]; exact ⟨_, rfl, ⟨12, .data⟩, by simp, rfl, rfl⟩
        clear hD hWA hZ
        refine RI.AllDo.cons 0 (RI.does_pure (fun _ => trivial) rfl (fun γ L w h => by rw [RI.more_ne (by omega)]; exact h) (fun γ L a w hH hl hA => by have e0 := R2 γ L a w hH; have n11 : L 11 = false := RI.not_yet hH A_11_0 hl; have hw : w = V.drew := RI.early hH.glob n11; subst hw; simp [execOp, go_sem, e0, ct])) ?_
        refine RI.AllDo.cons 1 (RI.does_pure (fun _ => trivial) rfl (fun γ L w h => by rw [RI.more_ne (by omega)]; exact h) (fun γ L a w hH hl hA => by have e0 := R3 γ L a w hH; simp [execOp, go_sem, e0])) ?_
        refine RI.AllDo.cons 2 (RI.does_pure (fun _ => trivial) rfl (fun γ L w h => by rw [RI.more_ne (by omega)]; exact h) (fun γ L a w hH hl hA => by have e0 := R4 γ L a w hH; simp [execOp, go_sem, e0])) ?_
        refine RI.AllDo.cons 3 (RI.does_pure (fun _ => trivial) rfl (fun γ L w h => by rw [RI.more_ne (by omega)]; exact h) (fun γ L a w hH hl hA => by have e0 : a.tmps[18]? = some (.pointer (some ⟨pl, k * 3, none⟩)) := hH.slot 2 18 d2 (hA ⟨2, .data⟩ (by simp) rfl); simp [execOp, go_sem, e0])) ?_
        refine RI.AllDo.cons 4 (RI.does_pure (fun _ => trivial) rfl (fun γ L w h => by rw [RI.more_ne (by omega)]; exact h) (fun γ L a w hH hl hA => by have e0 : a.tmps[19]? = some (.pointer (some ⟨pl, k * 3, none⟩)) := hH.slot 3 19 d3 (hA ⟨3, .data⟩ (by simp) rfl); simp [execOp, go_sem, e0])) ?_
        refine RI.AllDo.cons 5 (RI.does_pure (fun _ => trivial) rfl (fun γ L w h => by rw [RI.more_ne (by omega)]; exact h) (fun γ L a w hH hl hA => by have e0 : a.tmps[20]? = some (.pointer (some ⟨pl, k * 3, none⟩)) := hH.slot 4 20 d4 (hA ⟨4, .data⟩ (by simp) rfl); have n6 : L 6 = false := RI.not_yet hH A_6_5 hl; have n11 : L 11 = false := RI.not_yet hH A_11_6 n6; have hw : w = V.drew := RI.early hH.glob n11; subst hw; simp [execOp, go_sem, e0, c0])) ?_
        refine RI.AllDo.cons 6 (RI.does_call (fun _ => trivial) (by omega) rfl (fun γ L a w hH hl hA => by have e0 : a.tmps[17]? = some (.int .i64 (k : Int)) := hH.slot 1 17 d1 (hA ⟨1, .data⟩ (by simp) rfl); have e1 : a.tmps[21]? = some (.int .i64 ag) := hH.slot 5 21 d5 (hA ⟨5, .data⟩ (by simp) rfl); have n11 : L 11 = false := RI.not_yet hH A_11_6 hl; have hw : w = V.drew := RI.early hH.glob n11; subst hw; exact ⟨27, #[.int .i64 (k : Int), .int .i64 ag], by simp [go_sem, e0, e1], (CallsIn.inRound l2 (callsIn_wide.2 (handle_any (k : Int) ag V.drew (by omega) (by omega) hok0 hok1))).mono (by rintro e w2 ⟨rfl, rfl⟩; exact ⟨_, rfl, fun _ => rfl, (by rw [RI.more_ne (by omega)]; exact hH.glob)⟩)⟩)) ?_
        refine RI.AllDo.cons 7 (RI.does_pure (fun _ => trivial) rfl (fun γ L w h => by rw [RI.more_ne (by omega)]; exact h) (fun γ L a w hH hl hA => by have e0 := R4 γ L a w hH; simp [execOp, go_sem, e0])) ?_
        refine RI.AllDo.cons 8 (RI.does_pure (fun _ => trivial) rfl (fun γ L w h => by rw [RI.more_ne (by omega)]; exact h) (fun γ L a w hH hl hA => by have e0 : a.tmps[23]? = some (.pointer (some ⟨pl, k * 3, none⟩)) := hH.slot 7 23 d7 (hA ⟨7, .data⟩ (by simp) rfl); simp [execOp, go_sem, e0])) ?_
        refine RI.AllDo.cons 9 (RI.does_pure (fun _ => trivial) rfl (fun γ L w h => by rw [RI.more_ne (by omega)]; exact h) (fun γ L a w hH hl hA => by have e0 : a.tmps[24]? = some (.pointer (some ⟨pl, k * 3, none⟩)) := hH.slot 8 24 d8 (hA ⟨8, .data⟩ (by simp) rfl); simp [execOp, go_sem, e0])) ?_
        refine RI.AllDo.cons 10 (RI.does_pure (fun _ => trivial) rfl (fun γ L w h => by rw [RI.more_ne (by omega)]; exact h) (fun γ L a w hH hl hA => by have e0 : a.tmps[25]? = some (.pointer (some ⟨pl, k * 3 + 2, none⟩)) := hH.slot 9 25 d9 (hA ⟨9, .data⟩ (by simp) rfl); have n11 : L 11 = false := RI.not_yet hH A_11_10 hl; have hw : w = V.drew := RI.early hH.glob n11; subst hw; simp [execOp, go_sem, e0, c2])) ?_
        refine RI.AllDo.cons 11 (RI.does_round (fun _ => trivial) (by omega) rfl (fun γ L a w hH hl hA => by have e0 : a.tmps[16]? = some (.func (.yield l) #[] #[]) := hH.slot 0 16 d0 (hA ⟨0, .data⟩ (by simp) rfl); have e1 : a.tmps[22]? = some (.int .i64 (ag * 65536 + (k : Int) + 1)) := hH.slot 6 22 d6 (hA ⟨6, .data⟩ (by simp) rfl); have e2 : a.tmps[26]? = some (.int .i64 px) := hH.slot 10 26 d10 (hA ⟨10, .data⟩ (by simp) rfl); have hw : w = V.drew := RI.early hH.glob hl; subst hw; have n12 : L 12 = false := RI.not_yet hH A_12_11 hl; have n13 : L 13 = false := RI.not_yet hH A_13_12 n12; exact ⟨l, fn, tmps, assign, body, by simp [go_sem, e0, e1, e2, hy], RI.told_round (i := 11) (γ := γ) (L := L) (val := (fun γ j => match j with | 0 => .func (.yield l) #[] #[] | 1 => .int .i64 (k : Int) | 2 => .pointer (some ⟨pl, k * 3, none⟩) | 3 => .pointer (some ⟨pl, k * 3, none⟩) | 4 => .pointer (some ⟨pl, k * 3, none⟩) | 5 => .int .i64 ag | 6 => .int .i64 (ag * 65536 + (k : Int) + 1) | 7 => .pointer (some ⟨pl, k * 3, none⟩) | 8 => .pointer (some ⟨pl, k * 3, none⟩) | 9 => .pointer (some ⟨pl, k * 3 + 2, none⟩) | 10 => .int .i64 px | 11 => .bool (decide (γ 11 = 1)) | 12 => .bool (!decide (γ 11 = 1)) | 13 => .bool (!decide (γ 11 = 1)) | _ => undef)) (G := (fun γ L v => (L 11 = false ∧ v = V.drew) ∨ (L 11 = true ∧ ((γ 11 = 1 ∧ J (lives L0 pre ++ [X]) v ∧ Keep (fun b => b = Bs ∨ b = pp ∨ b = pl ∨ n0 ≤ b) V.drew v ∧ KeepsFrom (n0 + 2) V.drew v) ∨ (γ 11 = 0 ∧ Jx (lives L0 pre ++ [X]) v ∧ KeepsFrom (n0 + 2) V.drew v))))) hR (fun b j hj => by match j, hj with | 11, h => exact absurd h (by rw [hl]; decide) | 12, h => exact absurd h (by rw [n12]; decide) | 13, h => exact absurd h (by rw [n13]; decide) | 0, _ | 1, _ | 2, _ | 3, _ | 4, _ | 5, _ | 6, _ | 7, _ | 8, _ | 9, _ | 10, _ => rfl | j + 14, _ => rfl) (fun b => rfl) (fun w2 a b c => Or.inr ⟨RI.more_self, Or.inl ⟨rfl, a, b, c⟩⟩) (fun w2 a c => Or.inr ⟨RI.more_self, Or.inr ⟨rfl, a, c⟩⟩)⟩)) ?_
        refine RI.AllDo.cons 12 (RI.does_pure (fun _ => trivial) rfl (fun γ L w h => by rw [RI.more_ne (by omega)]; exact h) (fun γ L a w hH hl hA => by have e0 : a.tmps[27]? = some (.bool (decide (γ 11 = 1))) := hH.slot 11 27 d11 (hA ⟨11, .data⟩ (by simp) rfl); simp [execOp, go_sem, e0])) ?_
        refine RI.AllDo.cons 13 (RI.does_pure (fun _ => trivial) rfl (fun γ L w h => by rw [RI.more_ne (by omega)]; exact h) (fun γ L a w hH hl hA => by have e0 : a.tmps[28]? = some (.bool (!decide (γ 11 = 1))) := hH.slot 12 28 d12 (hA ⟨12, .data⟩ (by simp) rfl); simp [execOp, go_sem, e0])) ?_
        exact RI.AllDo.nil
      · intro γ a5 w5 L9 hL hLo hH
        have ha := RI.held_act hH hL (by kernel_rfl) (by kernel_rfl)
        have hg := RI.late hH.glob (hL 11 (by decide))
        rw [ha]
        clear ha hH hL hLo
        simp only [RI.putAll, Act.put, List.setIfInBounds_toArray, List.set_cons_zero, List.set_cons_succ, Nat.zero_add, Nat.reduceAdd]
        rcases hg with ⟨hγ, j1, j2, j3⟩ | ⟨hγ, j1, j3⟩
        · rw [hγ]
          gi_wp2
          exact ⟨(hKd.from _).trans (KeepsFrom.up j3 (by omega)), (fun q v hq hc => j2 q v (by rcases hq with h | h <;> omega) hc), by rw [hlv]; exact j1, hkp.trans (B := V) (fun q v hq hc => j2 q v hq hc)⟩
        · rw [hγ]
          gi_wp2
          exact ⟨(hKd.from _).trans (KeepsFrom.up j3 (by omega)), rfl, by rw [hlv]; exact j1⟩
  case done =>
    rintro D ys V hD rfl ⟨hj, hkp⟩ hK
    gi_wp2
    refine ⟨by simp, .inl ⟨_, _, rfl, run_takeDeferred hK, ?_⟩⟩
    exact ⟨_, results_none rfl _ _ _, ⟨_, rfl⟩, .inl ⟨_, rfl, hJ.putObj _ hj (by omega) hK rfl⟩⟩
  case stop =>
    rintro D c pre V hD ⟨m, hm, rfl⟩ ⟨rfl, hj⟩ hK
    gi_wp2
    refine ⟨by simp, .inl ⟨_, _, rfl, run_takeDeferred hK, ?_⟩⟩
    exact ⟨_, results_none rfl _ _ _, ⟨_, rfl⟩, .inr ⟨_, ⟨m, hm, rfl⟩, hJx.putObj _ hj (by omega) hK rfl⟩⟩
end Go.Proofs.Ytoocenbmggfodaa
