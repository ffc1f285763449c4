/- Layer 19: the statements' pick and Events; the document's own New, Push, Take, Free, All. -/
import Derived.Test.YtbbmjfaflcbimaaEvG
namespace Go.Proofs.Ytbbmjfaflcbimaa
open Go.RowKit Go.Shelf
set_option linter.unusedVariables false

def pickE (c n : Int) : Int := (if c < 0 then -(c + 1) else c) % n
theorem pickE_lo (c : Int) {n : Int} (hn : 0 < n) : 0 ≤ pickE c n := Int.emod_nonneg _ (by omega)
theorem pickE_hi (c : Int) {n : Int} (hn : 0 < n) : pickE c n < n := Int.emod_lt_of_pos _ hn
theorem epick_any (c n : Int) (w : World) (hc : -9223372036854775808 ≤ c ∧ c ≤ 9223372036854775807) (hn : 0 < n) (hn' : n ≤ 9223372036854775807) :
    Calls Try.prog 9 #[.int .i64 c, .int .i64 n] w fun e w' => e = .returned (.int .i64 (pickE c n)) ∧ w' = w := by
  unfold pickE
  by_cases h : c < 0
  · have hb : 0 ≤ -(c + 1) := by omega
    have hb' : -(c + 1) ≤ 9223372036854775807 := by omega
    have hz : (n == 0) = false := beq_eq_false_iff_ne.2 (by omega)
    rw [if_pos h]
    go_enter Try.func9, Try.ntmps9
    go_wp2
    go_ret
    have e : (c + 1).tmod n = -(-(c + 1) % n) := by
      rw [← Int.tmod_eq_emod_of_nonneg hb, Int.neg_tmod, Int.neg_neg]
    exact ⟨by rw [e, Int.neg_neg]; rfl, rfl⟩
  · have hz : (n == 0) = false := beq_eq_false_iff_ne.2 (by omega)
    rw [if_neg h]
    go_enter Try.func9, Try.ntmps9
    go_wp2
    go_ret
    exact ⟨rfl, rfl⟩
set_option maxHeartbeats 1000000 in
set_option maxRecDepth 100000 in
/-- Two lists that are the same. -/
theorem events_same (v u : Value) (L : List Ev) (w : World) (hv : LiesE w v L) (hu : LiesE w u L) :
    Calls Try.prog 18 #[v, u] w fun e W => e = .returned (.bool true) ∧ Below w.heap.size w W := by
  obtain ⟨ov, cv, rfl, _, hcv, hv⟩ := hv.form
  obtain ⟨ou, cu, rfl, _, hcu, hu⟩ := hu.form
  have HV : Hid _ := hv
  have HU : Hid _ := hu
  clear hv hu
  go_enter Try.func18, Try.ntmps18
  go_wp2_with (fail)
  go_loopg [5] L.length (fun gm i wr => ∃ k : Nat, i = .int .i64 (k : Int) ∧ k ≤ L.length ∧ gm = L.length - k ∧ Hid (Below w.heap.size w wr))
  case atStart => exact ⟨0, rfl, Nat.zero_le _, rfl, Below.refl _ w⟩
  case round =>
    obtain ⟨k, rfl, hk, hgm, HB⟩ := hrel
    have HG : Hid _ := hgm
    clear hgm
    by_cases hlt : k < L.length
    · obtain ⟨g, off, rfl, x0, x1, x2⟩ := HV.out k hlt
      obtain ⟨g', off', rfl, y0, y1, y2⟩ := HU.out k hlt
      have x0 := z_after HB.out x0
      have x1 := z_after HB.out x1
      have x2 := z_after HB.out x2
      have y0 := z_after HB.out y0
      have y1 := z_after HB.out y1
      have y2 := z_after HB.out y2
      generalize evAt L k = E at *
      obtain ⟨ek, ea, eb⟩ := E
      dsimp only at x0 x1 x2 y0 y1 y2
      clear HV HU
      go_wp2_with (fail)
      go_region
      go_wp2_with (fail)
      go_roundg (L.length - (k + 1))
      case measure => have := HG.out; omega
      case rel => exact ⟨k + 1, by go_num, by omega, rfl, HB.out.drew⟩
    · go_wp2_with (fail)
      go_ret
      exact ⟨rfl, HB.out⟩

/-- The document's own queue. -/
structure IsR (W : World) (rp base : Nat) (v : Value) (room : Nat) (C : List Ev) : Prop where
  c0 : W.cell? ⟨rp, 0, none⟩ = some v
  c1 : W.cell? ⟨rp, 1, none⟩ = some (.int .i64 (room : Int))
  fz : ∀ o, W.frozen? ⟨rp, o, none⟩ = false
  own : OA W base v C
  ne : v.ownBlock ≠ some rp
  room_ : room ≤ 1024
  count : C.length ≤ room
theorem IsR.lt {W : World} {rp base : Nat} {v : Value} {room : Nat} {C : List Ev} (h : IsR W rp base v room C) : rp < W.heap.size := World.block_lt_of_cell? _ _ h.c1
theorem IsR.keep {w W : World} {rp base : Nat} {v : Value} {room : Nat} {C : List Ev} (h : IsR w rp base v room C) (hs : w.heap.size ≤ W.heap.size) (h1 : W.heap[rp]? = w.heap[rp]?) (hk : ∀ k, v.ownBlock = some k → W.heap[k]? = w.heap[k]?) : IsR W rp base v room C :=
  ⟨(World.cell?_of_block (a := ⟨rp, 0, none⟩) h1).trans h.c0, (World.cell?_of_block (a := ⟨rp, 1, none⟩) h1).trans h.c1, fun o => (World.frozen?_of_block (a := ⟨rp, o, none⟩) h1).trans (h.fz o), h.own.keep hs hk, h.ne, h.room_, h.count⟩
theorem IsR.below {w W : World} {rp base : Nat} {v : Value} {room : Nat} {C : List Ev} (h : IsR w rp base v room C) (hb : Below w.heap.size w W) : IsR W rp base v room C := h.keep hb.size (hb.block rp h.lt) (fun k e => hb.block k (h.own.lt k e).2)
theorem IsR.two {w W : World} {rp base p q : Nat} {v : Value} {room : Nat} {C : List Ev} (h : IsR w rp base v room C) (hb : Two2 w W p q) (h1 : rp ≠ p) (h2 : rp ≠ q) (h3 : v.ownBlock ≠ some p) (h4 : v.ownBlock ≠ some q) : IsR W rp base v room C :=
  h.keep hb.size (hb.block rp h.lt h1 h2) (fun k e => hb.block k (h.own.lt k e).2 (fun x => h3 (by rw [e, x])) (fun x => h4 (by rw [e, x])))

/-- All stays but the queue's two blocks. -/
structure RT (w W : World) (rp : Nat) (v : Value) : Prop where
  os : W.os = w.os
  tape : W.tape = w.tape
  output : W.output = w.output
  size : w.heap.size ≤ W.heap.size
  block : ∀ k, k < w.heap.size → k ≠ rp → some k ≠ v.ownBlock → W.heap[k]? = w.heap[k]?
theorem RT.of_below {w W : World} (h : Below w.heap.size w W) (rp : Nat) (v : Value) : RT w W rp v := ⟨h.os, h.tape, h.output, h.size, fun k hk _ _ => h.block k hk⟩
theorem RT.then {a b c : World} {rp : Nat} {v : Value} (h : RT a b rp v) (k : Below b.heap.size b c) : RT a c rp v := ⟨k.os.trans h.os, k.tape.trans h.tape, k.output.trans h.output, Nat.le_trans h.size k.size, fun i hi h1 h2 => (k.block i (Nat.lt_of_lt_of_le hi h.size)).trans (h.block i hi h1 h2)⟩
theorem RT.below {n : Nat} {w a b : World} {rp : Nat} {v : Value} (h : Below n w a) (hn : n ≤ a.heap.size) (hp : n ≤ rp) (hv : ∀ k, v.ownBlock = some k → n ≤ k) (k : RT a b rp v) : Below n w b :=
  ⟨k.os.trans h.os, k.tape.trans h.tape, k.output.trans h.output, Nat.le_trans h.size k.size, fun i hi => (k.block i (Nat.lt_of_lt_of_le hi hn) (by omega) (fun e => by have := hv i e.symm; omega)).trans (h.block i hi)⟩
theorem IsQ.rt {w W : World} {qp rb rp : Nat} {v : Value} {R : List Ev} {f c : Nat} (h : IsQ w qp rb R f c) (hb : RT w W rp v) (h1 : qp ≠ rp) (h2 : rb ≠ rp) (h3 : v.ownBlock ≠ some qp) (h4 : v.ownBlock ≠ some rb) : IsQ W qp rb R f c := h.keep (hb.block qp h.qlt h1 (Ne.symm h3)) (hb.block rb h.rlt h2 (Ne.symm h4))
theorem Qu.below {w W : World} {qp rb room : Nat} {C : List Ev} (h : Qu w qp rb room C) (hb : Below w.heap.size w W) : Qu W qp rb room C := by
  obtain ⟨R, f, h1, h2⟩ := h
  exact ⟨R, f, h1.below hb, h2⟩
theorem Qu.two {w W : World} {qp rb room p q : Nat} {C : List Ev} (h : Qu w qp rb room C) (hb : Two2 w W p q) (h1 : qp ≠ p) (h2 : qp ≠ q) (h3 : rb ≠ p) (h4 : rb ≠ q) : Qu W qp rb room C := by
  obtain ⟨R, f, k1, k2⟩ := h
  exact ⟨R, f, k1.two hb h1 h2 h3 h4, k2⟩
theorem Qu.rt {w W : World} {qp rb rp room : Nat} {v : Value} {C : List Ev} (h : Qu w qp rb room C) (hb : RT w W rp v) (h1 : qp ≠ rp) (h2 : rb ≠ rp) (h3 : v.ownBlock ≠ some qp) (h4 : v.ownBlock ≠ some rb) : Qu W qp rb room C := by
  obtain ⟨R, f, k1, k2⟩ := h
  exact ⟨R, f, k1.rt hb h1 h2 h3 h4, k2⟩
theorem Qu.lt {W : World} {qp rb room : Nat} {C : List Ev} (h : Qu W qp rb room C) : qp < W.heap.size ∧ rb < W.heap.size := by
  obtain ⟨R, f, k1, k2⟩ := h
  exact ⟨k1.qlt, k1.rlt⟩
theorem Qu.count {W : World} {qp rb room : Nat} {C : List Ev} (h : Qu W qp rb room C) : C.length ≤ room ∧ room ≤ 1024 := by
  obtain ⟨R, f, k1, k2, k3⟩ := h
  have := k1.count
  have := k1.room
  omega
theorem rnew19_no (room : Int) (w : World) (h : room < 1 ∨ 1024 < room) :
    Calls Try.prog 8 #[.int .i64 room] w fun e w' => e = .returned (.tuple #[.pointer none, .int .i64 1]) ∧ w' = w := by
  rcases h with h | h
  · go_enter Try.func8, Try.ntmps8
    go_wp2
    go_ret2
    exact ⟨rfl, rfl⟩
  · have h' : ¬ room < 1 := by omega
    go_enter Try.func8, Try.ntmps8
    go_wp2
    go_ret2
    exact ⟨rfl, rfl⟩
theorem rnew19_yes (room base : Nat) (w : World) (h1 : 1 ≤ room) (h2 : room ≤ 1024) :
    Calls Try.prog 8 #[.int .i64 (room : Int)] w fun e W => ∃ rp, e = .returned (.tuple #[.pointer (some ⟨rp, 0, none⟩), .int .i64 0]) ∧ w.heap.size ≤ rp ∧ IsR W rp base (.slice none 0 0) room [] ∧ Below w.heap.size w W := by
  have h3 : ¬ (room : Int) < 1 := by omega
  have h4 : ¬ 1024 < (room : Int) := by omega
  go_enter Try.func8, Try.ntmps8
  go_wp2
  go_ret2
  exact ⟨_, rfl, Nat.le_refl _, ⟨by simp [go_sem], by simp [go_sem], fun o => by simp [go_sem], OA.nil _ _, by simp [Value.ownBlock], h2, by simp⟩, (Below.refl _ w).alloc (Nat.le_refl _) _⟩
set_option maxHeartbeats 1000000 in
theorem rfree19_any (rp base room : Nat) (v : Value) (C : List Ev) (w : World) (h : IsR w rp base v room C) :
    Calls Try.prog 17 #[.pointer (some ⟨rp, 0, none⟩)] w fun e W => e = .returned (.int .i64 ((room : Int) - (C.length : Int))) ∧ Below w.heap.size w W := by
  obtain ⟨o, cap, rfl, hl, _⟩ := h.own.len
  have e0 := h.c0
  have e1 := h.c1
  have hr := h.room_
  have hcc := h.count
  clear h
  go_enter Try.func17, Try.ntmps17
  go_wp2
  go_region
  go_wp2_with (fail)
  go_ret
  exact ⟨rfl, (Below.refl _ w).drew⟩
set_option maxHeartbeats 1000000 in
theorem rpush_full (rp base room : Nat) (v u : Value) (C L : List Ev) (w : World) (h : IsR w rp base v room C) (hl : LiesE w u L) (hf : room < C.length + L.length) :
    Calls Try.prog 14 #[.pointer (some ⟨rp, 0, none⟩), u] w fun e W => e = .returned (.int .i64 190) ∧ Below w.heap.size w W := by
  obtain ⟨o, cap, rfl, hcl, _⟩ := h.own.len
  obtain ⟨o', cap', rfl, hlm⟩ := hl.len
  have e0 := h.c0
  have e1 := h.c1
  have hr := h.room_
  have hcc := h.count
  have hd : decide ((L.length : Int) > (room : Int) - (C.length : Int)) = true := decide_eq_true (by omega)
  have hd' : (room : Int) - (C.length : Int) < (L.length : Int) := by omega
  clear h hl hf
  go_enter Try.func14, Try.ntmps14
  go_wp2
  go_region
  go_wp2_with (fail)
  go_ret
  exact ⟨rfl, (Below.refl _ w).drew⟩
set_option maxHeartbeats 1000000 in
theorem rpush_fits (rp base room : Nat) (v u : Value) (C L : List Ev) (w : World) (h : IsR w rp base v room C) (hl : LiesE w u L) (hf : C.length + L.length ≤ room) (hb : base ≤ w.heap.size) :
    Calls Try.prog 14 #[.pointer (some ⟨rp, 0, none⟩), u] w fun e W => ∃ v', e = .returned (.int .i64 0) ∧ IsR W rp base v' room (C ++ L) ∧ (v'.ownBlock = v.ownBlock ∨ ∃ k, v'.ownBlock = some k ∧ w.heap.size ≤ k) ∧ RT w W rp v := by
  have HR : Hid _ := h
  have HL : Hid _ := hl
  obtain ⟨o, cap, rfl, hcl, _⟩ := h.own.len
  obtain ⟨o', cap', rfl, hlm⟩ := hl.len
  have e0 := h.c0
  have e1 := h.c1
  have fz := h.fz
  have hr := h.room_
  have hcc := h.count
  have hrl := h.lt
  have hne := h.ne
  have hd : decide ((L.length : Int) > (room : Int) - (C.length : Int)) = false := decide_eq_false (by omega)
  have hd' : ¬ ((room : Int) - (C.length : Int) < (L.length : Int)) := by omega
  clear h hl
  go_enter Try.func14, Try.ntmps14
  go_wp2
  go_region
  have HD : Hid (Below w.heap.size w w.drew) := (Below.refl _ w).drew
  have HN : Hid _ := hne
  clear hne
  go_wp2_with (at_builtin; refine eapp rfl _ _ rfl base _ C rfl (HR.out.below HD.out).own _ L rfl (HL.out.below HD.out) (by omega) hb ?_; intro u8 V8 r8 g8 s8; obtain ⟨a8, c8, rfl, _, _⟩ := r8.len; rw [List.length_append] at r8 s8; have q0 := g8.cell e0 (fun e => HN.out e.symm); have qf : V8.frozen? ⟨rp, 0, none⟩ = false := (World.frozen?_of_block (a := ⟨rp, 0, none⟩) (g8.block rp hrl (fun e => HN.out e.symm))).trans (fz 0))
  go_ret
  have s8 : (Value.slice a8 (C.length + L.length) c8).ownBlock = (Value.slice o C.length cap).ownBlock ∨ (Value.slice a8 (C.length + L.length) c8).ownBlock = some w.heap.size := s8
  have g8 : w.drew.grownBy V8 (Value.slice o C.length cap).ownBlock := g8
  have hv8 : (Value.slice a8 (C.length + L.length) c8).ownBlock ≠ some rp := fun e => by
    rcases s8 with s8 | s8
    · exact HN.out (by rw [← s8, e])
    · rw [s8] at e; injection e with e; have : rp < w.drew.heap.size := hrl; omega
  have hsz : w.heap.size ≤ V8.heap.size := g8.size
  refine ⟨_, rfl, ⟨?_, ?_, fun o => ?_, r8.keep (by simp [World.setCell]) (fun k e => Below.heap_setCell _ _ _ _ (fun x => hv8 (by rw [e, x]))), hv8, hr, by rw [List.length_append]; exact hf⟩, ?_, ⟨g8.os, g8.tape, g8.output, by simpa [World.setCell] using hsz, fun k hk hkr hkv => ?_⟩⟩
  · exact World.cell?_setCell_same _ _ _ q0
  · rw [World.cell?_setCell_other _ _ _ _ (by simp)]; exact g8.cell e1 (fun e => HN.out e.symm)
  · rw [World.frozen?_setCell]; exact (World.frozen?_of_block (a := ⟨rp, o, none⟩) (g8.block rp hrl (fun e => HN.out e.symm))).trans (fz o)
  · rcases s8 with s8 | s8
    · exact Or.inl s8
    · exact Or.inr ⟨_, s8, Nat.le_refl _⟩
  · exact (Below.heap_setCell _ _ _ _ hkr).trans (g8.block k hk hkv)
end Go.Proofs.Ytbbmjfaflcbimaa
