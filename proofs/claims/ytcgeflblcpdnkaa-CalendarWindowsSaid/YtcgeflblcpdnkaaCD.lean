/- The chapter's examples; CalendarBack and CalendarWindows. -/
import Derived.Test.YtcgeflblcpdnkaaCW
namespace Go.Proofs.Ytcgeflblcpdnkaa
open Go.RowKit

theorem working_week (w : World) : Calls Try.prog 17 #[.int .i64 0, .int .i64 7, .slice none 0 0] w fun e w' => e = .returned (.tuple #[.int .i64 5, .int .i64 0]) ∧ Below w.heap.size w w' := by
  have h := calWorking_any 0 7 (.slice none 0 0) 0 (fun _ => 0) w ⟨none, 0, rfl, Nat.zero_le _, fun j hj => by omega⟩
  rw [show workI 0 7 0 (fun _ => 0) = (5, 0) by decide] at h
  exact h

theorem day_ex (w : World) : Calls Try.prog 11 #[.int .i64 2, .int .i64 3] w fun e w' => e = .returned (.tuple #[.int .i64 733, .int .i64 0]) ∧ w = w' := by
  have h := calDay_any 2 3 w
  rw [show dayI 2 3 = (733, 0) by decide] at h
  exact h

theorem days_ex (w : World) : Calls Try.prog 23 #[.agg #[.int .i64 360, .int .i64 4]] w fun e w' => e = .returned (.int .i64 10) ∧ Below w.heap.size w w' := by
  have h := calDays_any 360 4 w
  rw [show daysI 360 4 = 10 by decide] at h
  exact h
theorem in_ex1 (w : World) : Calls Try.prog 21 #[.agg #[.int .i64 360, .int .i64 4], .int .i64 361] w fun e w' => e = .returned (.bool true) ∧ Below w.heap.size w w' := by
  have h := calIn_any 360 4 361 w
  rw [show inB 360 4 361 = true by decide] at h
  exact h
theorem in_ex2 (w : World) : Calls Try.prog 21 #[.agg #[.int .i64 360, .int .i64 4], .int .i64 369] w fun e w' => e = .returned (.bool true) ∧ Below w.heap.size w w' := by
  have h := calIn_any 360 4 369 w
  rw [show inB 360 4 369 = true by decide] at h
  exact h
theorem in_ex3 (w : World) : Calls Try.prog 21 #[.agg #[.int .i64 360, .int .i64 4], .int .i64 370] w fun e w' => e = .returned (.bool false) ∧ Below w.heap.size w w' := by
  have h := calIn_any 360 4 370 w
  rw [show inB 360 4 370 = false by decide] at h
  exact h

set_option maxHeartbeats 1000000 in
theorem awake_any (w : World) : Calls Try.prog 7 #[] w fun e w' => e = .returned (.bool true) ∧ Below w.heap.size w w' := by
  go_enter Try.func7, Try.ntmps7
  go_wp2_with (first
    | (go_at_call 17; (with_reducible refine (working_week _).mono ?_); rintro e w1 ⟨rfl, hb1⟩)
    | (go_at_call 11; (with_reducible refine (day_ex _).mono ?_); rintro e w2 ⟨rfl, rfl⟩)
    | (go_at_call 23; (with_reducible refine (days_ex _).mono ?_); rintro e w3 ⟨rfl, hb3⟩; obtain ⟨hc3, hf3⟩ := bcell hb3; have hz3 := size_new hb3)
    | (go_at_call 21; first
        | ((with_reducible refine (in_ex1 _).mono ?_); rintro e w4 ⟨rfl, hb4⟩; obtain ⟨hc4, hf4⟩ := bcell hb4; have hz4 := Nat.lt_of_lt_of_le hz3 hb4.size)
        | ((with_reducible refine (in_ex2 _).mono ?_); rintro e w5 ⟨rfl, hb5⟩; obtain ⟨hc5, hf5⟩ := bcell hb5; have hz5 := Nat.lt_of_lt_of_le hz4 hb5.size)
        | ((with_reducible refine (in_ex3 _).mono ?_); rintro e w6 ⟨rfl, hb6⟩)))
  go_ret
  exact ⟨ret_bool (by simp), hb1.trans ((below_new (hb3.trans ((hb4.mono hb3.size).trans ((hb5.mono (Nat.le_trans hb3.size hb4.size)).trans (hb6.mono (Nat.le_trans hb3.size (Nat.le_trans hb4.size hb5.size))))))).mono hb1.size)⟩

/-! ### CalendarBack -/
set_option maxHeartbeats 400000 in
theorem back_any (x : Int) (h0 : 0 ≤ x) (h1 : x ≤ 65535) (w : World) :
    Calls Try.prog 4 #[.int .u16 x] w fun e w' => e = .returned (.bool true) ∧ Below w.heap.size w w' := by
  have hd : dayB (x % 36865) = true := dayB_iff.2 (by omega)
  have Y := fun w => calYear_any (x % 36865) w
  have P := fun w => calPlace_any (x % 36865) w
  have D := fun w => calDay_any (x % 36865 / 365) (x % 36865 % 365) w
  rw [show yearI (x % 36865) = (x % 36865 / 365, 0) by simp [yearI, hd]] at Y
  rw [show plI (x % 36865) = (x % 36865 % 365, 0) by simp [plI, hd]] at P
  have e1 : dayI (x % 36865 / 365) (x % 36865 % 365) = (x % 36865 / 365 * 365 + x % 36865 % 365, 0) := by
    have a1 : 0 ≤ x % 36865 / 365 ∧ x % 36865 / 365 ≤ 100 := by omega
    have a2 : placeB (x % 36865 % 365) = true := placeB_iff.2 (by omega)
    simp only [dayI, a2, if_true, if_pos a1]
  rw [e1, show x % 36865 / 365 * 365 + x % 36865 % 365 = x % 36865 by omega] at D
  rw [show x % 36865 % 365 = x % 365 by omega] at D P
  clear e1 hd
  have hy0 : 0 ≤ x % 36865 / 365 := by omega
  have hy1 : x % 36865 / 365 ≤ 100 := by omega
  have hs : x % 36865 / 365 * 365 + x % 365 = x % 36865 := by omega
  go_enter Try.func4, Try.ntmps4
  go_wp2_with (first
    | (go_at_call 13; (with_reducible refine (Y _).mono ?_); rintro e w1 ⟨rfl, rfl⟩)
    | (go_at_call 15; (with_reducible refine (P _).mono ?_); rintro e w2 ⟨rfl, rfl⟩)
    | (go_at_call 11; (with_reducible refine (D _).mono ?_); rintro e w3 ⟨rfl, rfl⟩)
    | (go_at_call 7; (with_reducible refine (awake_any _).mono ?_); rintro e w4 ⟨rfl, hb⟩))
  all_goals
    go_ret
    exact ⟨ret_bool (by simp), hb⟩

theorem back_walk (a0 : Int) (w0 : (Lit.int .u16 a0).wf = true) (W : World) :
    Calls Try.prog 4 #[.int .u16 a0] W fun e w' => e = .returned (.bool true) ∧ Below W.heap.size W w' :=
  back_any a0 (wf_u16 w0).1 (wf_u16 w0).2 W
end Go.Proofs.Ytcgeflblcpdnkaa
