/- In, Days and Next of package calendar, and the reference's In. -/
import Derived.Test.YtcgeflblcpdnkaaCA
namespace Go.Proofs.Ytcgeflblcpdnkaa
open Go.RowKit

theorem calIn_any (f u d : Int) (w : World) :
    Calls Try.prog 21 #[.agg #[.int .i64 f, .int .i64 u], .int .i64 d] w fun e w' => e = .returned (.bool (inB f u d)) ∧ Below w.heap.size w w' := by
  by_cases hv : validB f u = true
  · by_cases hd : dayB d = true
    · have e : inB f u d = holdB f u (d % 365) := by simp [inB, hv, hd]
      rw [e]
      clear e
      have hd' := dayB_iff.1 hd
      go_enter Try.func21, Try.ntmps21
      go_wp2_with (first
        | (go_at_call 32; (with_reducible refine (valid_any _ _ _).mono ?_); rintro e w1 ⟨rfl, hb⟩; obtain ⟨hc, hf⟩ := bcell hb; have hz : w.heap.size < w1.heap.size := size_new hb)
        | (go_at_call 26; (with_reducible refine (isDay_any _ _).mono ?_); rintro e w' ⟨rfl, rfl⟩)
        | (go_at_call 34; (with_reducible refine (holds_any _ _ _ _).mono ?_); rintro e w' ⟨rfl, hb2⟩))
      go_ret
      exact ⟨ret_bool rfl, below_new (hb.trans (hb2.mono hb.size))⟩
    · have hd' : dayB d = false := by simpa using hd
      have e : inB f u d = false := by simp [inB, hd']
      rw [e]
      clear e hd
      go_enter Try.func21, Try.ntmps21
      go_wp2_with (first
        | (go_at_call 32; (with_reducible refine (valid_any _ _ _).mono ?_); rintro e w1 ⟨rfl, hb⟩; obtain ⟨hc, hf⟩ := bcell hb; have hz : w.heap.size < w1.heap.size := size_new hb)
        | (go_at_call 26; (with_reducible refine (isDay_any _ _).mono ?_); rintro e w' ⟨rfl, rfl⟩))
      go_ret
      exact ⟨ret_bool rfl, below_new hb⟩
  · have hv' : validB f u = false := by simpa using hv
    have e : inB f u d = false := by simp [inB, hv']
    rw [e]
    clear e hv
    go_enter Try.func21, Try.ntmps21
    go_wp2_with (first
      | (go_at_call 32; (with_reducible refine (valid_any _ _ _).mono ?_); rintro e w1 ⟨rfl, hb⟩; obtain ⟨hc, hf⟩ := bcell hb; have hz : w.heap.size < w1.heap.size := size_new hb))
    go_ret
    exact ⟨ret_bool rfl, below_new hb⟩

theorem refIn_any (f u d : Int) (w : World) :
    Calls Try.prog 22 #[.agg #[.int .i64 f, .int .i64 u], .int .i64 d] w fun e w' => e = .returned (.bool (inB f u d)) ∧ Below w.heap.size w w' := by
  by_cases hv : validB f u = true
  · by_cases hd : dayB d = true
    · have e : inB f u d = holdB f u (d % 365) := by simp [inB, hv, hd]
      rw [e]
      clear e
      have hd' := dayB_iff.1 hd
      go_enter Try.func22, Try.ntmps22
      go_wp2_with (first
        | (go_at_call 33; (with_reducible refine (refValid_any _ _ _).mono ?_); rintro e w' ⟨rfl, hb⟩; obtain ⟨hc, hf⟩ := bcell hb)
        | (go_at_call 27; (with_reducible refine (refIs_any _ _).mono ?_); rintro e w' ⟨rfl, rfl⟩))
      all_goals (go_ret; exact ⟨ret_bool (by rw [Bool.eq_iff_iff, holdB_iff]; simp; omega), below_new hb⟩)
    · have hd' : dayB d = false := by simpa using hd
      have e : inB f u d = false := by simp [inB, hd']
      rw [e]
      clear e hd
      go_enter Try.func22, Try.ntmps22
      go_wp2_with (first
        | (go_at_call 33; (with_reducible refine (refValid_any _ _ _).mono ?_); rintro e w' ⟨rfl, hb⟩; obtain ⟨hc, hf⟩ := bcell hb)
        | (go_at_call 27; (with_reducible refine (refIs_any _ _).mono ?_); rintro e w' ⟨rfl, rfl⟩))
      go_ret
      exact ⟨ret_bool rfl, below_new hb⟩
  · have hv' : validB f u = false := by simpa using hv
    have e : inB f u d = false := by simp [inB, hv']
    rw [e]
    clear e hv
    go_enter Try.func22, Try.ntmps22
    go_wp2_with (first
      | (go_at_call 33; (with_reducible refine (refValid_any _ _ _).mono ?_); rintro e w' ⟨rfl, hb⟩))
    go_ret
    exact ⟨ret_bool rfl, below_new hb⟩

/-- How many days of a year are in a window. -/
def daysI (f u : Int) : Int := if validB f u then (if u < f then u - f + 1 + 365 else u - f + 1) else 0

theorem calDays_any (f u : Int) (w : World) :
    Calls Try.prog 23 #[.agg #[.int .i64 f, .int .i64 u]] w fun e w' => e = .returned (.int .i64 (daysI f u)) ∧ Below w.heap.size w w' := by
  by_cases hv : validB f u = true
  · have hv' := validB_iff.1 hv
    by_cases ho : u < f
    · have e : daysI f u = u - f + 1 + 365 := by simp [daysI, hv, ho]
      rw [e]
      clear e
      go_enter Try.func23, Try.ntmps23
      go_wp2_with (first
        | (go_at_call 32; (with_reducible refine (valid_any _ _ _).mono ?_); rintro e w1 ⟨rfl, hb⟩; obtain ⟨hc, hf⟩ := bcell hb; have hz : w.heap.size < w1.heap.size := size_new hb)
        | (go_at_call 35; (with_reducible refine (over_any _ _ _).mono ?_); rintro e w' ⟨rfl, hb2⟩))
      go_ret
      exact ⟨ret_int rfl, below_new (hb.trans (hb2.mono hb.size))⟩
    · have e : daysI f u = u - f + 1 := by simp [daysI, hv, ho]
      rw [e]
      clear e
      go_enter Try.func23, Try.ntmps23
      go_wp2_with (first
        | (go_at_call 32; (with_reducible refine (valid_any _ _ _).mono ?_); rintro e w1 ⟨rfl, hb⟩; obtain ⟨hc, hf⟩ := bcell hb; have hz : w.heap.size < w1.heap.size := size_new hb)
        | (go_at_call 35; (with_reducible refine (over_any _ _ _).mono ?_); rintro e w' ⟨rfl, hb2⟩))
      go_ret
      exact ⟨ret_int rfl, below_new (hb.trans (hb2.mono hb.size))⟩
  · have hv' : validB f u = false := by simpa using hv
    have e : daysI f u = 0 := by simp [daysI, hv']
    rw [e]
    clear e hv
    go_enter Try.func23, Try.ntmps23
    go_wp2_with (first
      | (go_at_call 32; (with_reducible refine (valid_any _ _ _).mono ?_); rintro e w1 ⟨rfl, hb⟩; obtain ⟨hc, hf⟩ := bcell hb; have hz : w.heap.size < w1.heap.size := size_new hb))
    go_ret
    exact ⟨ret_int rfl, below_new hb⟩

/-- How many days from a day until a window begins. -/
def waitI (f d : Int) : Int := if f - d % 365 < 0 then f - d % 365 + 365 else f - d % 365
def nextI (f u d : Int) : Int × Bool :=
  if validB f u && dayB d then if holdB f u (d % 365) then (d, true) else if 36864 < d + waitI f d then (0, false) else (d + waitI f d, true) else (0, false)

theorem calNext_any (f u d : Int) (w : World) :
    Calls Try.prog 19 #[.agg #[.int .i64 f, .int .i64 u], .int .i64 d] w fun e w' => e = .returned (.tuple #[.int .i64 (nextI f u d).1, .bool (nextI f u d).2]) ∧ Below w.heap.size w w' := by
  by_cases hv : validB f u = true
  · have hv' := validB_iff.1 hv
    by_cases hd : dayB d = true
    · have hd' := dayB_iff.1 hd
      by_cases hh : holdB f u (d % 365) = true
      · have e : nextI f u d = (d, true) := by simp [nextI, hv, hd, hh]
        have ei : inB f u d = true := by simp [inB, hv, hd, hh]
        rw [e]
        clear e
        go_enter Try.func19, Try.ntmps19
        go_wp2_with (first
          | (go_at_call 32; (with_reducible refine (valid_any _ _ _).mono ?_); rintro e w1 ⟨rfl, hb⟩; obtain ⟨hc, hf⟩ := bcell hb; have hz : w.heap.size < w1.heap.size := size_new hb)
          | (go_at_call 26; (with_reducible refine (isDay_any _ _).mono ?_); rintro e w' ⟨rfl, rfl⟩)
          | (go_at_call 21; (with_reducible refine (calIn_any _ _ _ _).mono ?_); rintro e w' ⟨rfl, hb2⟩))
        go_ret2
        exact ⟨rfl, below_new (hb.trans (hb2.mono hb.size))⟩
      · have hh' : holdB f u (d % 365) = false := by simpa using hh
        have ei : inB f u d = false := by simp [inB, hh']
        have e : nextI f u d = if 36864 < d + waitI f d then (0, false) else (d + waitI f d, true) := by simp [nextI, hv, hd, hh']
        rw [e]
        clear e hh
        unfold waitI
        by_cases h1 : f - d % 365 < 0
        · rw [if_pos h1]
          by_cases h2 : 36864 < d + (f - d % 365 + 365)
          · rw [if_pos h2]
            go_enter Try.func19, Try.ntmps19
            go_wp2_with (first
              | (go_at_call 32; (with_reducible refine (valid_any _ _ _).mono ?_); rintro e w1 ⟨rfl, hb⟩; obtain ⟨hc, hf⟩ := bcell hb; have hz : w.heap.size < w1.heap.size := size_new hb)
              | (go_at_call 26; (with_reducible refine (isDay_any _ _).mono ?_); rintro e w' ⟨rfl, rfl⟩)
              | (go_at_call 21; (with_reducible refine (calIn_any _ _ _ _).mono ?_); rintro e w2 ⟨rfl, hb2⟩; obtain ⟨hc2, hf2⟩ := bcell hb2))
            go_ret2
            exact ⟨rfl, below_new (hb.trans (hb2.mono hb.size))⟩
          · rw [if_neg h2]
            go_enter Try.func19, Try.ntmps19
            go_wp2_with (first
              | (go_at_call 32; (with_reducible refine (valid_any _ _ _).mono ?_); rintro e w1 ⟨rfl, hb⟩; obtain ⟨hc, hf⟩ := bcell hb; have hz : w.heap.size < w1.heap.size := size_new hb)
              | (go_at_call 26; (with_reducible refine (isDay_any _ _).mono ?_); rintro e w' ⟨rfl, rfl⟩)
              | (go_at_call 21; (with_reducible refine (calIn_any _ _ _ _).mono ?_); rintro e w2 ⟨rfl, hb2⟩; obtain ⟨hc2, hf2⟩ := bcell hb2))
            go_ret2
            exact ⟨rfl, below_new (hb.trans (hb2.mono hb.size))⟩
        · rw [if_neg h1]
          by_cases h2 : 36864 < d + (f - d % 365)
          · exact absurd h2 (by omega)
          · rw [if_neg h2]
            go_enter Try.func19, Try.ntmps19
            go_wp2_with (first
              | (go_at_call 32; (with_reducible refine (valid_any _ _ _).mono ?_); rintro e w1 ⟨rfl, hb⟩; obtain ⟨hc, hf⟩ := bcell hb; have hz : w.heap.size < w1.heap.size := size_new hb)
              | (go_at_call 26; (with_reducible refine (isDay_any _ _).mono ?_); rintro e w' ⟨rfl, rfl⟩)
              | (go_at_call 21; (with_reducible refine (calIn_any _ _ _ _).mono ?_); rintro e w2 ⟨rfl, hb2⟩; obtain ⟨hc2, hf2⟩ := bcell hb2))
            go_ret2
            exact ⟨rfl, below_new (hb.trans (hb2.mono hb.size))⟩
    · have hd' : dayB d = false := by simpa using hd
      have e : nextI f u d = (0, false) := by simp [nextI, hd']
      rw [e]
      clear e hd
      go_enter Try.func19, Try.ntmps19
      go_wp2_with (first
        | (go_at_call 32; (with_reducible refine (valid_any _ _ _).mono ?_); rintro e w1 ⟨rfl, hb⟩; obtain ⟨hc, hf⟩ := bcell hb; have hz : w.heap.size < w1.heap.size := size_new hb)
        | (go_at_call 26; (with_reducible refine (isDay_any _ _).mono ?_); rintro e w' ⟨rfl, rfl⟩))
      go_ret2
      exact ⟨rfl, below_new hb⟩
  · have hv' : validB f u = false := by simpa using hv
    have e : nextI f u d = (0, false) := by simp [nextI, hv']
    rw [e]
    clear e hv
    go_enter Try.func19, Try.ntmps19
    go_wp2_with (first
      | (go_at_call 32; (with_reducible refine (valid_any _ _ _).mono ?_); rintro e w1 ⟨rfl, hb⟩; obtain ⟨hc, hf⟩ := bcell hb; have hz : w.heap.size < w1.heap.size := size_new hb))
    go_ret2
    exact ⟨rfl, below_new hb⟩
end Go.Proofs.Ytcgeflblcpdnkaa
