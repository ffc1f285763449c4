/- Package fx's calls, one by one: what each returns, and that but for the flag it leaves all memory as it was. -/
import Derived.Test.YtocdompopadanaaGreatKBits
import Derived.Deep.RegionWith
namespace Go.Proofs.YtocdompopadanaaGreat
open Go.RowKit Fx

theorem great_step (zs : List Int) (k : Nat) (h : k < zs.length) (hn : (zs.take k).any great = false) : (zs.take (k + 1)).any great = great (zs.getD k 0) := by
  rw [List.take_succ_eq_append_getElem h, List.any_append, hn]
  simp [List.getD_eq_getElem?_getD, List.getElem?_eq_getElem h]

set_option maxHeartbeats 1000000 in
theorem great_any (zs : List Int) (b off cap : Nat) (w : World) (hlen : zs.length ≤ 4611686018427387904) (hc : ∀ k, k < zs.length → w.cell? ⟨b, off + k, none⟩ = some (.int .i64 (zs.getD k 0))) :
    Calls Tryz.prog 123 #[.slice (some ⟨b, off, none⟩) zs.length cap] w fun e w' => e = .returned (.bool (zs.any great)) ∧ w' = w := by
  have HC : Hid _ := hc
  clear hc
  go_enter Tryz.func123, Tryz.ntmps123
  go_wp2
  go_loop [7] (fun i => ∃ k : Nat, k ≤ zs.length ∧ i = .int .i64 k ∧ Hid ((zs.take k).any great = false)) (fun i => zs.length - (intOf i).toNat)
  case atStart => exact ⟨0, Nat.zero_le _, rfl, by simp [Hid]⟩
  case round =>
    obtain ⟨k, hk, rfl, HG⟩ := hrel
    by_cases hlt : k < zs.length
    · have hcell := HC.out k hlt
      have hs := great_step zs k hlt HG.out
      obtain ⟨z, hz⟩ : ∃ z, zs.getD k 0 = z := ⟨_, rfl⟩
      rw [hz] at hcell hs
      have HS : Hid _ := hs
      clear hs hz
      by_cases g1 : z < -4611686018427387903
      · have hany : zs.any great = true := by
          have : (zs.take (k + 1)).any great = true := by rw [HS.out]; simp [great, g1]
          rw [List.any_eq_true] at this ⊢
          obtain ⟨x, hx, hg⟩ := this
          exact ⟨x, List.mem_of_mem_take hx, hg⟩
        go_wp2
        go_ret
        exact ⟨rfl, rfl⟩
      · by_cases g2 : 4611686018427387903 < z
        · have hany : zs.any great = true := by
            have : (zs.take (k + 1)).any great = true := by rw [HS.out]; simp [great, g2]
            rw [List.any_eq_true] at this ⊢
            obtain ⟨x, hx, hg⟩ := this
            exact ⟨x, List.mem_of_mem_take hx, hg⟩
          go_wp2
          go_ret
          exact ⟨rfl, rfl⟩
        · have hno : Hid ((zs.take (k + 1)).any great = false) := by
            show _ = false
            rw [HS.out]; simp [great]; omega
          go_wp2
          go_round
          case rel => exact ⟨k + 1, by omega, by go_num, hno⟩
          case measure => simp [intOf]; omega
    · have hany : zs.any great = false := by
        have := HG.out
        rwa [List.take_of_length_le (by omega)] at this
      go_wp2
      go_ret
      exact ⟨rfl, rfl⟩

set_option maxHeartbeats 1000000 in
theorem great_nil (a : Option Addr) (cap : Nat) (w : World) :
    Calls Tryz.prog 123 #[.slice a 0 cap] w fun e w' => e = .returned (.bool false) ∧ w' = w := by
  go_enter Tryz.func123, Tryz.ntmps123
  go_wp2
  go_rounds 1
  go_ret
  exact ⟨rfl, rfl⟩

set_option maxHeartbeats 1000000 in
theorem none_any (b off : Nat) (f : Bool) (w : World) (hc : w.cell? ⟨b, off, none⟩ = some (.bool f)) (hf : w.frozen? ⟨b, off, none⟩ = false) :
    Calls Tryz.prog 124 #[.pointer (some ⟨b, off, none⟩)] w fun e w' => e = .returned (.int .i64 0) ∧ w' = w.setCell ⟨b, off, none⟩ (.bool true) := by
  go_enter Tryz.func124, Tryz.ntmps124
  go_wp2
  go_ret
  exact ⟨rfl, rfl⟩

theorem great1 (a : Int) (w : World) : Calls Tryz.prog 123 #[.slice (some ⟨w.heap.size, 0, none⟩) 1 1] (w.alloc (.cells #[.int .i64 a] 3)) fun e w' => e = .returned (.bool (great a)) ∧ w' = w.alloc (.cells #[.int .i64 a] 3) := by
  have h := great_any [a] w.heap.size 0 1 (w.alloc (.cells #[.int .i64 a] 3)) (by simp) (fun k hk => by
    match k, hk with
    | 0, _ => simp)
  simpa using h

theorem great2 (a b : Int) (w : World) : Calls Tryz.prog 123 #[.slice (some ⟨w.heap.size, 0, none⟩) 2 2] (w.alloc (.cells #[.int .i64 a, .int .i64 b] 3)) fun e w' => e = .returned (.bool (great a || great b)) ∧ w' = w.alloc (.cells #[.int .i64 a, .int .i64 b] 3) := by
  have h := great_any [a, b] w.heap.size 0 2 (w.alloc (.cells #[.int .i64 a, .int .i64 b] 3)) (by simp) (fun k hk => by
    match k, hk with
    | 0, _ => simp
    | 1, _ => simp)
  simpa using h

theorem great3 (a b c : Int) (w : World) : Calls Tryz.prog 123 #[.slice (some ⟨w.heap.size, 0, none⟩) 3 3] (w.alloc (.cells #[.int .i64 a, .int .i64 b, .int .i64 c] 3)) fun e w' => e = .returned (.bool (great a || (great b || great c))) ∧ w' = w.alloc (.cells #[.int .i64 a, .int .i64 b, .int .i64 c] 3) := by
  have h := great_any [a, b, c] w.heap.size 0 3 (w.alloc (.cells #[.int .i64 a, .int .i64 b, .int .i64 c] 3)) (by simp) (fun k hk => by
    match k, hk with
    | 0, _ => simp
    | 1, _ => simp
    | 2, _ => simp)
  simpa using h

/-- What a call that tells o leaves of the flag at p. -/
def mark (p : Addr) (o : Option Int) (w : World) : World := if o.isNone then w.setCell p (.bool true) else w

theorem mark_none (p : Addr) (w : World) : mark p none w = w.setCell p (.bool true) := rfl
theorem mark_some (p : Addr) (n : Int) (w : World) : mark p (some n) w = w := rfl

theorem set_after {w w1 : World} {p : Addr} {v : Value} (hb : Below w.heap.size w w1) : Below w.heap.size (w.setCell p v) (w1.setCell p v) := by
  refine ⟨hb.os, hb.tape, hb.output, by simpa [World.setCell] using hb.size, fun k hk => ?_⟩
  simp only [World.setCell, Array.getElem?_modify]
  rw [hb.block k hk]

theorem cell_after {w w1 : World} {p : Addr} {v : Value} (hb : Below w.heap.size w w1) (hc : w.cell? p = some v) : w1.cell? p = some v := (hb.cell (World.block_lt_of_cell? _ _ hc)).trans hc
theorem frozen_after {w w1 : World} {p : Addr} {v : Value} (hb : Below w.heap.size w w1) (hc : w.cell? p = some v) (hf : w.frozen? p = false) : w1.frozen? p = false := (hb.frozen (World.block_lt_of_cell? _ _ hc)).trans hf
theorem new_after (w : World) (o : Obj) : Below w.heap.size w (w.alloc o) := (Below.refl _ _).alloc (Nat.le_refl _) _

set_option maxHeartbeats 1000000 in
theorem tell_yes (b off : Nat) (n : Int) (w : World) (hg : great n = false) :
    Calls Tryz.prog 125 #[.pointer (some ⟨b, off, none⟩), .int .i64 n, .bool true] w fun e w' => e = .returned (.int .i64 n) ∧ Below w.heap.size w w' := by
  have C1 : Hid _ := great1 n w
  rw [hg] at C1
  clear hg
  go_enter Tryz.func125, Tryz.ntmps125
  go_wp2_with (go_at_call 123; refine (Calls.mono C1.out ?_); rintro e w' ⟨rfl, rfl⟩)
  go_ret
  exact ⟨rfl, by go_grown⟩

set_option maxHeartbeats 1000000 in
theorem tell_great (b off : Nat) (f : Bool) (n : Int) (w : World) (hc : w.cell? ⟨b, off, none⟩ = some (.bool f)) (hf : w.frozen? ⟨b, off, none⟩ = false) (hg : great n = true) :
    Calls Tryz.prog 125 #[.pointer (some ⟨b, off, none⟩), .int .i64 n, .bool true] w fun e w' => e = .returned (.int .i64 0) ∧ Below w.heap.size (w.setCell ⟨b, off, none⟩ (.bool true)) w' := by
  have C1 := great1 n w
  have hb := new_after w (.cells #[.int .i64 n] 3)
  have C2 : Hid _ := none_any b off f (w.alloc (.cells #[.int .i64 n] 3)) (cell_after hb hc) (frozen_after hb hc hf)
  have HB : Hid _ := set_after (p := ⟨b, off, none⟩) (v := .bool true) hb
  rw [hg] at C1
  have K1 : Hid _ := C1
  clear hg C1 hb hc hf
  go_enter Tryz.func125, Tryz.ntmps125
  go_wp2_with (first | (go_at_call 123; refine (Calls.mono K1.out ?_); rintro e w' ⟨rfl, rfl⟩) | (go_at_call 124; refine (Calls.mono C2.out ?_); rintro e w' ⟨rfl, rfl⟩))
  go_ret
  exact ⟨rfl, HB.out⟩

set_option maxHeartbeats 1000000 in
theorem tell_no (b off : Nat) (f : Bool) (n : Int) (w : World) (hc : w.cell? ⟨b, off, none⟩ = some (.bool f)) (hf : w.frozen? ⟨b, off, none⟩ = false) :
    Calls Tryz.prog 125 #[.pointer (some ⟨b, off, none⟩), .int .i64 n, .bool false] w fun e w' => e = .returned (.int .i64 0) ∧ Below w.heap.size (w.setCell ⟨b, off, none⟩ (.bool true)) w' := by
  have C2 : Hid _ := none_any b off f w hc hf
  clear hc hf
  go_enter Tryz.func125, Tryz.ntmps125
  go_wp2_with (go_at_call 124; refine (Calls.mono C2.out ?_); rintro e w' ⟨rfl, rfl⟩)
  go_ret
  exact ⟨rfl, Below.refl _ _⟩

/-- tell, where the number fits: it tells the number, unless it is great. -/
theorem tell_any (b off : Nat) (f : Bool) (n : Int) (w : World) (hc : w.cell? ⟨b, off, none⟩ = some (.bool f)) (hf : w.frozen? ⟨b, off, none⟩ = false) :
    Calls Tryz.prog 125 #[.pointer (some ⟨b, off, none⟩), .int .i64 n, .bool true] w fun e w' => e = .returned (.int .i64 ((told n).getD 0)) ∧ Below w.heap.size (mark ⟨b, off, none⟩ (told n) w) w' := by
  cases hg : great n
  · simpa [told, hg, mark] using tell_yes b off n w hg
  · simpa [told, hg, mark] using tell_great b off f n w hc hf hg

theorem tell_any_none (b off : Nat) (f : Bool) (n : Int) (w : World) (hc : w.cell? ⟨b, off, none⟩ = some (.bool f)) (hf : w.frozen? ⟨b, off, none⟩ = false) :
    Calls Tryz.prog 125 #[.pointer (some ⟨b, off, none⟩), .int .i64 n, .bool false] w fun e w' => e = .returned (.int .i64 ((none : Option Int).getD 0)) ∧ Below w.heap.size (mark ⟨b, off, none⟩ none w) w' := by
  simpa [mark] using tell_no b off f n w hc hf

theorem mark_after {w w1 w2 : World} {p : Addr} {o : Option Int} (h1 : Below w.heap.size w w1) (h2 : Below w1.heap.size (mark p o w1) w2) : Below w.heap.size (mark p o w) w2 := by
  have hs := h1.size
  cases o with
  | none => exact (set_after h1).trans (h2.mono hs)
  | some n => exact h1.trans (h2.mono hs)

set_option maxHeartbeats 1000000 in
theorem add_any (b off : Nat) (f : Bool) (x y : Int) (w : World) (hc : w.cell? ⟨b, off, none⟩ = some (.bool f)) (hf : w.frozen? ⟨b, off, none⟩ = false) :
    Calls Tryz.prog 94 #[.pointer (some ⟨b, off, none⟩), .int .i64 x, .int .i64 y] w fun e w' => e = .returned (.int .i64 ((add x y).getD 0)) ∧ Below w.heap.size (mark ⟨b, off, none⟩ (add x y) w) w' := by
  have C1 := great2 x y w
  have hb := new_after w (.cells #[.int .i64 x, .int .i64 y] 3)
  have hc' := cell_after hb hc
  have hf' := frozen_after hb hc hf
  cases hg : (great x || great y)
  · have hadd : add x y = told (x + y) := by simp [add, hg]
    rw [hadd]
    rw [hg] at C1
    have hx : -4611686018427387903 ≤ x ∧ x ≤ 4611686018427387903 := (not_great x).1 (by simp at hg; exact hg.1)
    have hy : -4611686018427387903 ≤ y ∧ y ≤ 4611686018427387903 := (not_great y).1 (by simp at hg; exact hg.2)
    have C2 : Hid _ := tell_any b off f (x + y) _ hc' hf'
    have K1 : Hid _ := C1
    have HB : Hid _ := hb
    clear C1 hb hc hf hc' hf' hg hadd
    go_enter Tryz.func94, Tryz.ntmps94
    go_wp2_with (first | (go_at_call 123; refine (Calls.mono K1.out ?_); rintro e w' ⟨rfl, rfl⟩) | (go_at_call 125; refine (Calls.mono C2.out ?_); rintro e w' ⟨rfl, hb2⟩))
    go_ret
    exact ⟨rfl, mark_after HB.out hb2⟩
  · have hadd : add x y = none := by simp only [add, hg, if_true]
    rw [hadd]
    rw [hg] at C1
    have C2 : Hid _ := none_any b off f _ hc' hf'
    have K1 : Hid _ := C1
    have HB : Hid _ := set_after (p := ⟨b, off, none⟩) (v := .bool true) hb
    clear C1 hb hc hf hc' hf' hg hadd
    go_enter Tryz.func94, Tryz.ntmps94
    go_wp2_with (first | (go_at_call 123; refine (Calls.mono K1.out ?_); rintro e w' ⟨rfl, rfl⟩) | (go_at_call 124; refine (Calls.mono C2.out ?_); rintro e w' ⟨rfl, rfl⟩))
    go_ret
    exact ⟨rfl, HB.out⟩
end Go.Proofs.YtocdompopadanaaGreat
/- Package fx's calls Mul, Ratio, Div, Root: what each returns, and that but for the flag it leaves all memory as it was. -/
namespace Go.Proofs.YtocdompopadanaaGreat
open Go.RowKit Fx

theorem below_step {w w1 w2 : World} (h1 : Below w.heap.size w w1) (h2 : Below w1.heap.size w1 w2) : Below w.heap.size w w2 := h1.trans (h2.mono h1.size)

theorem small_prod {x y : Int} (hx : -4611686018427387903 ≤ x ∧ x ≤ 4611686018427387903) (hy : -4611686018427387903 ≤ y ∧ y ≤ 4611686018427387903) : -21267647932558653966460912964485513216 < x * y ∧ x * y < 21267647932558653966460912964485513216 := by
  have a : (x * y).natAbs ≤ 4611686018427387903 * 4611686018427387903 := by rw [Int.natAbs_mul]; exact Nat.mul_le_mul (by omega) (by omega)
  omega

set_option maxHeartbeats 1000000 in
theorem sub_any (b off : Nat) (f : Bool) (x y : Int) (w : World) (hc : w.cell? ⟨b, off, none⟩ = some (.bool f)) (hf : w.frozen? ⟨b, off, none⟩ = false) :
    Calls Tryz.prog 95 #[.pointer (some ⟨b, off, none⟩), .int .i64 x, .int .i64 y] w fun e w' => e = .returned (.int .i64 ((sub x y).getD 0)) ∧ Below w.heap.size (mark ⟨b, off, none⟩ (sub x y) w) w' := by
  have C1 := great2 x y w
  have hb := new_after w (.cells #[.int .i64 x, .int .i64 y] 3)
  have hc' := cell_after hb hc
  have hf' := frozen_after hb hc hf
  cases hg : (great x || great y)
  · have hsub : sub x y = told (x - y) := by simp [sub, hg]
    rw [hsub]
    rw [hg] at C1
    have hx : -4611686018427387903 ≤ x ∧ x ≤ 4611686018427387903 := (not_great x).1 (by simp at hg; exact hg.1)
    have hy : -4611686018427387903 ≤ y ∧ y ≤ 4611686018427387903 := (not_great y).1 (by simp at hg; exact hg.2)
    have C2 : Hid _ := tell_any b off f (x - y) _ hc' hf'
    have K1 : Hid _ := C1
    have HB : Hid _ := hb
    clear C1 hb hc hf hc' hf' hg hsub
    go_enter Tryz.func95, Tryz.ntmps95
    go_wp2_with (first | (go_at_call 123; refine (Calls.mono K1.out ?_); rintro e w' ⟨rfl, rfl⟩) | (go_at_call 125; refine (Calls.mono C2.out ?_); rintro e w' ⟨rfl, hb2⟩))
    go_ret
    exact ⟨rfl, mark_after HB.out hb2⟩
  · have hsub : sub x y = none := by simp only [sub, hg, if_true]
    rw [hsub]
    rw [hg] at C1
    have C2 : Hid _ := none_any b off f _ hc' hf'
    have K1 : Hid _ := C1
    have HB : Hid _ := set_after (p := ⟨b, off, none⟩) (v := .bool true) hb
    clear C1 hb hc hf hc' hf' hg hsub
    go_enter Tryz.func95, Tryz.ntmps95
    go_wp2_with (first | (go_at_call 123; refine (Calls.mono K1.out ?_); rintro e w' ⟨rfl, rfl⟩) | (go_at_call 124; refine (Calls.mono C2.out ?_); rintro e w' ⟨rfl, rfl⟩))
    go_ret
    exact ⟨rfl, HB.out⟩
end Go.Proofs.YtocdompopadanaaGreat
/- Package fx's call Norm: what it returns, and that but for the flag it leaves all memory as it was. -/
namespace Go.Proofs.YtocdompopadanaaGreat
open Go.RowKit Fx

theorem sum_end {w wr w1 w2 : World} {u0 u1 : Value} (v0 v1 : Value) (HB : Below w.heap.size w wr) (hsz : w.heap.size < wr.heap.size) (hb1 : Below wr.drew.heap.size wr.drew w1) (hb2 : Below w1.heap.size w1 w2)
    (r0 : w2.cell? ⟨w.heap.size, 0, none⟩ = some u0) (r1 : w2.cell? ⟨w.heap.size, 1, none⟩ = some u1) (s0 : w2.frozen? ⟨w.heap.size, 0, none⟩ = false) (s1 : w2.frozen? ⟨w.heap.size, 1, none⟩ = false) :
    Below w.heap.size w ((w2.setCell ⟨w.heap.size, 0, none⟩ v0).setCell ⟨w.heap.size, 1, none⟩ v1) ∧ w.heap.size < ((w2.setCell ⟨w.heap.size, 0, none⟩ v0).setCell ⟨w.heap.size, 1, none⟩ v1).heap.size ∧
    ((w2.setCell ⟨w.heap.size, 0, none⟩ v0).setCell ⟨w.heap.size, 1, none⟩ v1).cell? ⟨w.heap.size, 0, none⟩ = some v0 ∧ ((w2.setCell ⟨w.heap.size, 0, none⟩ v0).setCell ⟨w.heap.size, 1, none⟩ v1).cell? ⟨w.heap.size, 1, none⟩ = some v1 ∧
    ((w2.setCell ⟨w.heap.size, 0, none⟩ v0).setCell ⟨w.heap.size, 1, none⟩ v1).frozen? ⟨w.heap.size, 0, none⟩ = false ∧ ((w2.setCell ⟨w.heap.size, 0, none⟩ v0).setCell ⟨w.heap.size, 1, none⟩ v1).frozen? ⟨w.heap.size, 1, none⟩ = false := by
  have a1 : Below w.heap.size w w1 := (HB.drew).trans (hb1.mono (by simp; omega))
  have a2 := below_step a1 hb2
  have h1 := hb1.size
  have h2 := hb2.size
  simp at h1
  refine ⟨(a2.setCell (Nat.le_refl _) _).setCell (Nat.le_refl _) _, ?_, ?_, ?_, ?_, ?_⟩
  · simp; omega
  · simp [go_sem, r0]
  · simp [go_sem, r1]
  · simp [go_sem, s0]
  · simp [go_sem, s1]

end Go.Proofs.YtocdompopadanaaGreat
/- Package fx's calls as the laws meet them: what is told, what becomes of the flag, and that nothing else of what was there has turned. -/
namespace Go.Proofs.YtocdompopadanaaGreat
open Go.RowKit Fx

/-- From a flag f, a call that tells o: the number v, the flag g. -/
def Step (f : Bool) (o : Option Int) (v : Int) (g : Bool) : Prop := v = o.getD 0 ∧ g = (f || o.isNone)

/-- From W to W' the flag at p has become g; no other block that was there has turned. -/
structure After (p : Addr) (g : Bool) (W W' : World) : Prop where
  cell : W'.cell? p = some (.bool g)
  frozen : W'.frozen? p = false
  size : W.heap.size ≤ W'.heap.size
  other : ∀ q : Addr, q.block < W.heap.size → q.block ≠ p.block → W'.cell? q = W.cell? q ∧ W'.frozen? q = W.frozen? q
  below : ∀ (B : Nat) (w : World), Below B w W → B ≤ p.block → B ≤ W.heap.size → Below B w W'
  kept : W'.os = W.os ∧ W'.tape = W.tape ∧ W'.output = W.output ∧ ∀ k, k < W.heap.size → k ≠ p.block → W'.heap[k]? = W.heap[k]?
  beside : p.block < W.heap.size → ∀ o, o ≠ p.off → W'.cell? ⟨p.block, o, none⟩ = W.cell? ⟨p.block, o, none⟩ ∧ W'.frozen? ⟨p.block, o, none⟩ = W.frozen? ⟨p.block, o, none⟩

theorem After.cellOf {p q : Addr} {g : Bool} {W W' : World} (h : After p g W W') {v : Value} (hq : W.cell? q = some v) (hne : q.block ≠ p.block) : W'.cell? q = some v := (h.other q (World.block_lt_of_cell? _ _ hq) hne).1.trans hq
theorem After.frozenOf {p q : Addr} {g : Bool} {W W' : World} (h : After p g W W') {v : Value} (hq : W.cell? q = some v) (hf : W.frozen? q = false) (hne : q.block ≠ p.block) : W'.frozen? q = false := (h.other q (World.block_lt_of_cell? _ _ hq) hne).2.trans hf

theorem After.on {w W W' : World} {p : Addr} {g : Bool} (h : After p g W W') (hb : Below w.heap.size w W) (hp : w.heap.size ≤ p.block) : Below w.heap.size w W' := h.below _ _ hb hp hb.size

theorem after_of {b off : Nat} {f : Bool} {o : Option Int} {W W' : World} (hb : Below W.heap.size (mark ⟨b, off, none⟩ o W) W') (hc : W.cell? ⟨b, off, none⟩ = some (.bool f)) (hf : W.frozen? ⟨b, off, none⟩ = false) :
    After ⟨b, off, none⟩ (f || o.isNone) W W' := by
  have hlt := World.block_lt_of_cell? _ _ hc
  cases o with
  | some n =>
    have hb : Below W.heap.size W W' := hb
    refine ⟨by rw [hb.cell hlt, hc]; simp, by rw [hb.frozen hlt, hf], hb.size, fun q hq _ => ⟨hb.cell hq, hb.frozen hq⟩, fun B w h _ hB => h.trans (hb.mono hB), ⟨hb.os, hb.tape, hb.output, fun k hk _ => hb.block k hk⟩, fun hp o _ => ⟨hb.cell hp, hb.frozen hp⟩⟩
  | none =>
    have hb : Below W.heap.size (W.setCell ⟨b, off, none⟩ (.bool true)) W' := hb
    have hs := hb.size
    simp [World.setCell] at hs
    refine ⟨?_, ?_, by simpa using hs, fun q hq hne => ⟨?_, ?_⟩, fun B w h hp hB => (h.setCell hp _).trans (hb.mono hB), ⟨hb.os, hb.tape, hb.output, fun k hk hne => (hb.block k hk).trans (Below.heap_setCell _ _ _ _ hne)⟩, fun hp o ho => ⟨?_, ?_⟩⟩
    · rw [hb.cell hlt]; simp [go_sem, hc]
    · rw [hb.frozen hlt]; simp [go_sem, hf]
    · rw [hb.cell hq]; exact World.cell?_of_block (w := W) (Below.heap_setCell _ _ _ _ hne)
    · rw [hb.frozen hq]; exact World.frozen?_of_block (w := W) (Below.heap_setCell _ _ _ _ hne)
    · exact (hb.cell (p := ⟨b, o, none⟩) hlt).trans (World.cell?_setCell_other _ _ _ _ (fun e => ho (Addr.mk.inj e).2.1.symm))
    · exact (hb.frozen (p := ⟨b, o, none⟩) hlt).trans (by simp [go_sem])

theorem add_law (b off : Nat) (f : Bool) (x y : Int) (W : World) (hc : W.cell? ⟨b, off, none⟩ = some (.bool f)) (hf : W.frozen? ⟨b, off, none⟩ = false) :
    Calls Tryz.prog 94 #[.pointer (some ⟨b, off, none⟩), .int .i64 x, .int .i64 y] W fun e W' => ∃ v g, e = .returned (.int .i64 v) ∧ Hid (Step f (add x y) v g) ∧ Hid (After ⟨b, off, none⟩ g W W') :=
  (add_any b off f x y W hc hf).mono fun _ _ ⟨a, h⟩ => ⟨_, _, a, ⟨rfl, rfl⟩, after_of h hc hf⟩

theorem sub_law (b off : Nat) (f : Bool) (x y : Int) (W : World) (hc : W.cell? ⟨b, off, none⟩ = some (.bool f)) (hf : W.frozen? ⟨b, off, none⟩ = false) :
    Calls Tryz.prog 95 #[.pointer (some ⟨b, off, none⟩), .int .i64 x, .int .i64 y] W fun e W' => ∃ v g, e = .returned (.int .i64 v) ∧ Hid (Step f (sub x y) v g) ∧ Hid (After ⟨b, off, none⟩ g W W') :=
  (sub_any b off f x y W hc hf).mono fun _ _ ⟨a, h⟩ => ⟨_, _, a, ⟨rfl, rfl⟩, after_of h hc hf⟩

end Go.Proofs.YtocdompopadanaaGreat
