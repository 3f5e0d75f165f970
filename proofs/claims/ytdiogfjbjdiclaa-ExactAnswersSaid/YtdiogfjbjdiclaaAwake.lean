/- Div64 below 2 ^ 64, Ints, and the chapter's examples. -/
import Derived.Test.YtdiogfjbjdiclaaExC
import Derived.Test.YtdiogfjbjdiclaaShares
namespace Go.Proofs.Ytdiogfjbjdiclaa
open Go.RowKit Go.Sort Go.Shelf

theorem below_drewN {B : Nat} {a w : World} (h : Below B a w) (q : Nat) : Below B a (w.drewN q) := ⟨h.os, h.tape, h.output, h.size, h.block⟩

theorem ret_ii {k l : IntKind} {a b c d : Int} (h : a = c) (g : b = d) : Ending.returned (.tuple #[.int k a, .int l b]) = .returned (.tuple #[.int k c, .int l d]) := by rw [h, g]

set_option maxHeartbeats 400000 in
theorem div64_low (lo y : Nat) (hlo : lo < 18446744073709551616) (hy0 : 0 < y) (w : World) :
    Calls Try.prog 29 #[.int .u64 0, .int .u64 lo, .int .u64 y] w fun e w' => e = .returned (.tuple #[.int .u64 ((lo / y : Nat) : Int), .int .u64 ((lo % y : Nat) : Int)]) ∧ ∃ q, w' = w.drewN q := by
  have h1 : ((y : Int) == 0) = false := beq_eq_false_iff_ne.2 (by omega)
  have h2 : (0 : Int) < (y : Int) := by omega
  have h3 : (lo : Int) ≤ 18446744073709551615 := by omega
  have e1 : (lo : Int) / (y : Int) = ((lo / y : Nat) : Int) := rfl
  have e2 : (lo : Int) % (y : Int) = ((lo % y : Nat) : Int) := rfl
  have E1 := Lib.hid e1
  have E2 := Lib.hid e2
  clear e1 e2
  go_enter Try.func29, Try.ntmps29
  go_wp2
  go_quiet (fail)
  go_wp2
  go_ret2
  have hq : (lo : Int) / (y : Int) ≤ (lo : Int) := by
    rw [E1.out]; have := Nat.div_le_self lo y; omega
  have hq0 : 0 ≤ (lo : Int) / (y : Int) := by rw [E1.out]; exact Int.natCast_nonneg _
  exact ⟨ret_ii (by rw [IntWalk.u64_in _ ⟨hq0, by omega⟩]; exact E1.out) E2.out, _, rfl⟩

theorem divOk_low (x y : Nat) (hx : x < 18446744073709551616) (hy : 0 < y) : DivOk x y := by
  intro w
  have h := div64_low x y hx hy w
  rw [Nat.div_eq_of_lt hx, Nat.mod_eq_of_lt hx]
  exact h

set_option maxHeartbeats 400000 in
theorem ints_true (n : Nat) (hn : n < 4611686018427387904) (ab ao ac bb bo bc : Nat) (z : Nat → Int) (w : World) (ha : ∀ j, j < n → w.cell? ⟨ab, ao + j, none⟩ = some (.int .i64 (z j))) (hb : ∀ j, j < n → w.cell? ⟨bb, bo + j, none⟩ = some (.int .i64 (z j))) :
    Calls Try.prog 25 #[.slice (some ⟨ab, ao, none⟩) n ac, .slice (some ⟨bb, bo, none⟩) n bc] w fun e w' => e = .returned (.bool true) ∧ ∃ q, w' = w.drewN q := by
  have HA := Lib.hid ha
  have HB := Lib.hid hb
  clear ha hb
  go_enter Try.func25, Try.ntmps25
  go_wp2
  go_loopw [13] (fun v wr => ∃ j q : Nat, j ≤ n ∧ v = .int .i64 j ∧ wr = w.drewN q) (fun v _ => n - (intOf v).toNat)
  case atStart => exact ⟨0, 0, Nat.zero_le _, rfl, rfl⟩
  case round =>
    obtain ⟨j, q, hj, rfl, rfl⟩ := hrel
    by_cases hlt : j < n
    · have h1 : (w.drewN q).cell? ⟨ab, ao + j, none⟩ = some (.int .i64 (z j)) := HA.out j hlt
      have h2 : (w.drewN q).cell? ⟨bb, bo + j, none⟩ = some (.int .i64 (z j)) := HB.out j hlt
      have b1 : (0 : Int) ≤ (j : Int) := by omega
      have b2 : (j : Int) < (n : Int) := by omega
      generalize hw1 : w.drewN q = w1 at *
      have HW1 := Lib.hid hw1
      clear hw1
      go_wp2
      go_quiet (fail)
      go_wp2
      go_roundw
      case rel => exact ⟨j + 1, _, by omega, by go_num, by rw [← HW1.out, World.drewN_drewN]⟩
      case measure => simp [intOf]; omega
    · obtain rfl : j = n := by omega
      go_wp2
      go_ret
      exact ⟨rfl, _, rfl⟩

/-- Shares of 10 with the weights 1, 1, 1 are 4, 3, 3. -/
theorem shares_ex (wb wc : Nat) (w : World) (hwb : wb < w.heap.size) (h0 : w.cell? ⟨wb, 0, none⟩ = some (.int .i64 1)) (h1 : w.cell? ⟨wb, 1, none⟩ = some (.int .i64 1)) (h2 : w.cell? ⟨wb, 2, none⟩ = some (.int .i64 1)) :
    Calls Try.prog 23 #[.int .i64 10, .slice (some ⟨wb, 0, none⟩) 3 wc] w fun e w' => e = .returned (.tuple #[.slice (some ⟨w.heap.size, 0, none⟩) 3 3, .int .i64 0]) ∧
      Below w.heap.size w w' ∧ w.heap.size < w'.heap.size ∧ w'.rowIs w.heap.size 3 3 (fun j => .int .i64 (if j = 0 then 4 else 3)) := by
  refine (shares_ok 3 (by omega) (by omega) (stable_small 2 (by omega)) 10 (by omega) (fun _ => 1) (fun _ _ => by omega) (by decide) wb 0 wc w (fun j _ => divOk_low _ _ (by decide) (by decide)) hwb (fun j hj => ?_)).mono ?_
  · have : j = 0 ∨ j = 1 ∨ j = 2 := by omega
    rcases this with rfl | rfl | rfl
    · exact h0
    · exact h1
    · exact h2
  · rintro e w' ⟨rfl, f, hf, hb, hz, hlt, hr⟩
    refine ⟨rfl, hb, hz, hr.congr fun j hj => ?_⟩
    have e3 : sumTo (fun _ => 1) 3 = 3 := rfl
    have eb : sumTo (baseF 10 3 (fun _ => 1)) 3 = 9 := by decide
    have ej : baseF 10 3 (fun _ => 1) j = 3 := by simp [baseF]
    have f0 : f 0 = 0 := by
      obtain ⟨p, hp, e⟩ := hf.2 0 (by omega)
      by_cases c : p = 0
      · rw [c] at e; exact e
      · have := hf.1 0 p (by omega) hp
        simp only [remF] at this
        omega
    rw [e3, eb, ej]
    simp only [among, f0]
    by_cases c : j = 0 <;> simp [c]

set_option maxHeartbeats 1000000 in
theorem awake_any (w : World) : Calls Try.prog 8 #[] w fun e w' => e = .returned (.bool true) ∧ Below w.heap.size w w' := by
  have hS := shares_ex w.heap.size 3 (w.alloc (.cells #[.int .i64 1, .int .i64 1, .int .i64 1] 3)) (by simp) (by simp) (by simp) (by simp)
  have hhalf : halfI (-3) 2 = -1 := by decide
  have hdown : downI (-7) 2 = -4 := by decide
  have hup : upI 7 2 = 4 := by decide
  have hless : lessB 1 3 1 2 = true := by decide
  go_enter Try.func8, Try.ntmps8
  go_wp2_with (first
    | (go_at_call 23; (with_reducible refine hS.mono ?_); rintro e w' ⟨rfl, hb, hz, hr⟩)
    | fail)
  have hI : Calls Try.prog 25 #[.slice (some ⟨w.heap.size + 1, 0, none⟩) 3 3, .slice (some ⟨w'.heap.size, 0, none⟩) 3 3] (w'.alloc (.cells #[.int .i64 4, .int .i64 3, .int .i64 3] 3)) fun e w'' => e = .returned (.bool true) ∧ ∃ q, w'' = (w'.alloc (.cells #[.int .i64 4, .int .i64 3, .int .i64 3] 3)).drewN q := by
    refine ints_true 3 (by omega) _ 0 3 _ 0 3 (fun j => if j = 0 then 4 else 3) _ (fun j hj => ?_) (fun j hj => ?_)
    · have := (hr.alloc (.cells #[.int .i64 4, .int .i64 3, .int .i64 3] 3)).cell hj
      simpa using this
    · have : j = 0 ∨ j = 1 ∨ j = 2 := by omega
      rcases this with rfl | rfl | rfl <;> simp
  have hb' : Below w.heap.size w w' := ((Below.refl _ _).alloc (Nat.le_refl _) _).trans (hb.mono (by simp))
  have hsz := hb'.size
  clear hb hz hr hS
  refine (half_any _ _ _).mono ?_
  rintro e w1 ⟨rfl, rfl⟩
  go_wp2_with (first
    | (go_at_call 15; (with_reducible refine (down_any _ _ _).mono ?_); rintro e w' ⟨rfl, rfl⟩)
    | (go_at_call 17; (with_reducible refine (up_any _ _ _).mono ?_); rintro e w' ⟨rfl, rfl⟩)
    | (go_at_call 21; (with_reducible refine (less_any _ _ _ _ _).mono ?_); rintro e w' ⟨rfl, rfl⟩)
    | (go_at_call 25; (with_reducible refine hI.mono ?_); rintro e w'' ⟨rfl, q, rfl⟩))
  go_ret
  exact ⟨ret_bool (by simp), below_drewN (hb'.alloc hsz _) q⟩

end Go.Proofs.Ytdiogfjbjdiclaa
