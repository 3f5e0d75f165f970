/- The contracts of package calendar's small functions, and of the reference's. -/
import Derived.Test.YtcgeflblcpdnkaaBase
namespace Go.Proofs.Ytcgeflblcpdnkaa
open Go.RowKit

def placeB (n : Int) : Bool := decide (0 ≤ n) && decide (n < 365)
def dayB (n : Int) : Bool := decide (0 ≤ n) && decide (n ≤ 36864)
theorem placeB_iff {n : Int} : placeB n = true ↔ 0 ≤ n ∧ n < 365 := by simp [placeB]
theorem placeB_f {n : Int} : placeB n = false ↔ n < 0 ∨ 365 ≤ n := by rw [← Bool.not_eq_true, placeB_iff]; omega
theorem dayB_iff {n : Int} : dayB n = true ↔ 0 ≤ n ∧ n ≤ 36864 := by simp [dayB]
theorem dayB_f {n : Int} : dayB n = false ↔ n < 0 ∨ 36864 < n := by rw [← Bool.not_eq_true, dayB_iff]; omega
/-- Both ends of a window are places. -/
def validB (f u : Int) : Bool := placeB f && placeB u
theorem validB_iff {f u : Int} : validB f u = true ↔ (0 ≤ f ∧ f < 365) ∧ 0 ≤ u ∧ u < 365 := by simp [validB, placeB_iff]
/-- A place is in a window. -/
def holdB (f u p : Int) : Bool := if u < f then decide (f ≤ p) || decide (p ≤ u) else decide (f ≤ p) && decide (p ≤ u)
theorem holdB_iff {f u p : Int} : holdB f u p = true ↔ (u < f ∧ (f ≤ p ∨ p ≤ u)) ∨ (f ≤ u ∧ f ≤ p ∧ p ≤ u) := by
  unfold holdB; split <;> simp <;> omega
theorem holdB_f {f u p : Int} : holdB f u p = false ↔ ¬ ((u < f ∧ (f ≤ p ∨ p ≤ u)) ∨ (f ≤ u ∧ f ≤ p ∧ p ≤ u)) := by
  rw [← holdB_iff]; simp
def inB (f u d : Int) : Bool := validB f u && dayB d && holdB f u (d % 365)

/-- The day with a place in a year, and the error's number. -/
def dayI (y p : Int) : Int × Int := if 0 ≤ y ∧ y ≤ 100 then if placeB p then (y * 365 + p, 0) else (0, 9) else (0, 18)

theorem isPlace_any (n : Int) (w : World) :
    Calls Try.prog 25 #[.int .i64 n] w fun e w' => e = .returned (.bool (placeB n)) ∧ w = w' := by
  go_enter Try.func25, Try.ntmps25
  go_wp2
  all_goals (go_ret; exact ⟨ret_bool (by rw [eq_comm]; first | (simp [placeB, *]; done) | (simp [placeB_iff, placeB_f]; omega)), rfl⟩)

theorem isDay_any (n : Int) (w : World) :
    Calls Try.prog 26 #[.int .i64 n] w fun e w' => e = .returned (.bool (dayB n)) ∧ w = w' := by
  go_enter Try.func26, Try.ntmps26
  go_wp2
  all_goals (go_ret; exact ⟨ret_bool (by rw [eq_comm]; first | (simp [dayB, *]; done) | (simp [dayB_iff, dayB_f]; omega)), rfl⟩)

theorem refIs_any (n : Int) (w : World) :
    Calls Try.prog 27 #[.int .i64 n] w fun e w' => e = .returned (.bool (dayB n)) ∧ w = w' := by
  go_enter Try.func27, Try.ntmps27
  go_wp2
  all_goals (go_ret; exact ⟨ret_bool (by rw [eq_comm]; first | (simp [dayB, *]; done) | (simp [dayB_iff, dayB_f]; omega)), rfl⟩)

theorem over_any (f u : Int) (w : World) :
    Calls Try.prog 35 #[.agg #[.int .i64 f, .int .i64 u]] w fun e w' => e = .returned (.bool (decide (u < f))) ∧ Below w.heap.size w w' := by
  go_enter Try.func35, Try.ntmps35
  go_wp2
  go_ret
  exact ⟨rfl, (Below.refl _ _).alloc (Nat.le_refl _) _⟩

theorem valid_any (f u : Int) (w : World) :
    Calls Try.prog 32 #[.agg #[.int .i64 f, .int .i64 u]] w fun e w' => e = .returned (.bool (validB f u)) ∧ Below w.heap.size w w' := by
  by_cases h : placeB f = true
  · have e : validB f u = placeB u := by simp [validB, h]
    rw [e]
    clear e
    go_enter Try.func32, Try.ntmps32
    go_wp2_with (go_at_call 25; (with_reducible refine (isPlace_any _ _).mono ?_); rintro e w' ⟨rfl, rfl⟩)
    go_ret
    exact ⟨rfl, (Below.refl _ _).alloc (Nat.le_refl _) _⟩
  · have e : validB f u = false := by simp [validB, h]
    rw [e]
    clear e
    have h' : placeB f = false := by simpa using h
    clear h
    go_enter Try.func32, Try.ntmps32
    go_wp2_with (go_at_call 25; (with_reducible refine (isPlace_any _ _).mono ?_); rintro e w' ⟨rfl, rfl⟩)
    go_ret
    exact ⟨rfl, (Below.refl _ _).alloc (Nat.le_refl _) _⟩

theorem refValid_any (f u : Int) (w : World) :
    Calls Try.prog 33 #[.agg #[.int .i64 f, .int .i64 u]] w fun e w' => e = .returned (.bool (validB f u)) ∧ Below w.heap.size w w' := by
  go_enter Try.func33, Try.ntmps33
  go_wp2
  all_goals (go_ret; exact ⟨ret_bool (by rw [Bool.eq_iff_iff, validB_iff]; simp; omega), (Below.refl _ _).alloc (Nat.le_refl _) _⟩)

theorem holds_any (f u p : Int) (w : World) :
    Calls Try.prog 34 #[.agg #[.int .i64 f, .int .i64 u], .int .i64 p] w fun e w' => e = .returned (.bool (holdB f u p)) ∧ Below w.heap.size w w' := by
  go_enter Try.func34, Try.ntmps34
  go_wp2_with (go_at_call 35; (with_reducible refine (over_any _ _ _).mono ?_); rintro e w' ⟨rfl, hb⟩; obtain ⟨hc, hf⟩ := bcell hb)
  all_goals (go_ret; exact ⟨ret_bool (by rw [Bool.eq_iff_iff, holdB_iff]; simp; omega), below_new hb⟩)

theorem calDay_any (y p : Int) (w : World) :
    Calls Try.prog 11 #[.int .i64 y, .int .i64 p] w fun e w' => e = .returned (.tuple #[.int .i64 (dayI y p).1, .int .i64 (dayI y p).2]) ∧ w = w' := by
  by_cases hy : 0 ≤ y ∧ y ≤ 100
  · obtain ⟨hy0, hy1⟩ := hy
    by_cases hp : placeB p = true
    · have e : dayI y p = (y * 365 + p, 0) := by simp [dayI, hy0, hy1, hp]
      rw [e]
      clear e
      have hp' := placeB_iff.1 hp
      go_enter Try.func11, Try.ntmps11
      go_wp2_with (go_at_call 25; (with_reducible refine (isPlace_any _ _).mono ?_); rintro e w' ⟨rfl, rfl⟩)
      go_ret2
      exact ⟨rfl, rfl⟩
    · have hp' : placeB p = false := by simpa using hp
      have e : dayI y p = (0, 9) := by simp [dayI, hy0, hy1, hp']
      rw [e]
      clear e hp
      go_enter Try.func11, Try.ntmps11
      go_wp2_with (go_at_call 25; (with_reducible refine (isPlace_any _ _).mono ?_); rintro e w' ⟨rfl, rfl⟩)
      go_ret2
      exact ⟨rfl, rfl⟩
  · have e : dayI y p = (0, 18) := by simp [dayI, hy]
    rw [e]
    clear e
    have hy' : y < 0 ∨ 100 < y := by omega
    clear hy
    rcases hy' with h | h
    all_goals
      go_enter Try.func11, Try.ntmps11
      go_wp2
      go_ret2
      exact ⟨rfl, rfl⟩

theorem refDay_any (y p : Int) (w : World) :
    Calls Try.prog 12 #[.int .i64 y, .int .i64 p] w fun e w' => e = .returned (.tuple #[.int .i64 (dayI y p).1, .int .i64 (dayI y p).2]) ∧ w = w' := by
  by_cases hy : 0 ≤ y ∧ y ≤ 100
  · obtain ⟨hy0, hy1⟩ := hy
    by_cases hp : placeB p = true
    · have e : dayI y p = (y * 365 + p, 0) := by simp [dayI, hy0, hy1, hp]
      rw [e]
      clear e
      have hp' := placeB_iff.1 hp
      clear hp
      go_enter Try.func12, Try.ntmps12
      go_wp2
      go_ret2
      exact ⟨rfl, rfl⟩
    · have hp' : placeB p = false := by simpa using hp
      have e : dayI y p = (0, 9) := by simp [dayI, hy0, hy1, hp']
      rw [e]
      have hp2 := placeB_f.1 hp'
      clear e hp hp'
      rcases hp2 with h | h
      all_goals
        go_enter Try.func12, Try.ntmps12
        go_wp2
        go_ret2
        exact ⟨rfl, rfl⟩
  · have e : dayI y p = (0, 18) := by simp [dayI, hy]
    rw [e]
    clear e
    have hy' : y < 0 ∨ 100 < y := by omega
    clear hy
    rcases hy' with h | h
    all_goals
      go_enter Try.func12, Try.ntmps12
      go_wp2
      go_ret2
      exact ⟨rfl, rfl⟩

def yearI (d : Int) : Int × Int := if dayB d then (d / 365, 0) else (0, 9)
def plI (d : Int) : Int × Int := if dayB d then (d % 365, 0) else (0, 9)

theorem calYear_any (d : Int) (w : World) :
    Calls Try.prog 13 #[.int .i64 d] w fun e w' => e = .returned (.tuple #[.int .i64 (yearI d).1, .int .i64 (yearI d).2]) ∧ w = w' := by
  by_cases h : dayB d = true
  · have e : yearI d = (d / 365, 0) := by simp [yearI, h]
    rw [e]
    clear e
    have hd := dayB_iff.1 h
    go_enter Try.func13, Try.ntmps13
    go_wp2_with (go_at_call 26; (with_reducible refine (isDay_any _ _).mono ?_); rintro e w' ⟨rfl, rfl⟩)
    go_ret2
    exact ⟨rfl, rfl⟩
  · have h' : dayB d = false := by simpa using h
    have e : yearI d = (0, 9) := by simp [yearI, h']
    rw [e]
    clear e h
    go_enter Try.func13, Try.ntmps13
    go_wp2_with (go_at_call 26; (with_reducible refine (isDay_any _ _).mono ?_); rintro e w' ⟨rfl, rfl⟩)
    go_ret2
    exact ⟨rfl, rfl⟩

theorem calPlace_any (d : Int) (w : World) :
    Calls Try.prog 15 #[.int .i64 d] w fun e w' => e = .returned (.tuple #[.int .i64 (plI d).1, .int .i64 (plI d).2]) ∧ w = w' := by
  by_cases h : dayB d = true
  · have e : plI d = (d % 365, 0) := by simp [plI, h]
    rw [e]
    clear e
    have hd := dayB_iff.1 h
    go_enter Try.func15, Try.ntmps15
    go_wp2_with (go_at_call 26; (with_reducible refine (isDay_any _ _).mono ?_); rintro e w' ⟨rfl, rfl⟩)
    go_ret2
    exact ⟨rfl, rfl⟩
  · have h' : dayB d = false := by simpa using h
    have e : plI d = (0, 9) := by simp [plI, h']
    rw [e]
    clear e h
    go_enter Try.func15, Try.ntmps15
    go_wp2_with (go_at_call 26; (with_reducible refine (isDay_any _ _).mono ?_); rintro e w' ⟨rfl, rfl⟩)
    go_ret2
    exact ⟨rfl, rfl⟩

theorem refYear_any (d : Int) (w : World) :
    Calls Try.prog 14 #[.int .i64 d] w fun e w' => e = .returned (.tuple #[.int .i64 (yearI d).1, .int .i64 (yearI d).2]) ∧ w = w' := by
  by_cases h : dayB d = true
  · have e : yearI d = (d / 365, 0) := by simp [yearI, h]
    rw [e]
    clear e
    have hd := dayB_iff.1 h
    go_enter Try.func14, Try.ntmps14
    go_wp2_with (go_at_call 27; (with_reducible refine (refIs_any _ _).mono ?_); rintro e w' ⟨rfl, rfl⟩)
    go_ret2
    exact ⟨rfl, rfl⟩
  · have h' : dayB d = false := by simpa using h
    have e : yearI d = (0, 9) := by simp [yearI, h']
    rw [e]
    clear e h
    go_enter Try.func14, Try.ntmps14
    go_wp2_with (go_at_call 27; (with_reducible refine (refIs_any _ _).mono ?_); rintro e w' ⟨rfl, rfl⟩)
    go_ret2
    exact ⟨rfl, rfl⟩

theorem refPlace_any (d : Int) (w : World) :
    Calls Try.prog 16 #[.int .i64 d] w fun e w' => e = .returned (.tuple #[.int .i64 (plI d).1, .int .i64 (plI d).2]) ∧ w = w' := by
  by_cases h : dayB d = true
  · have e : plI d = (d % 365, 0) := by simp [plI, h]
    rw [e]
    clear e
    have hd := dayB_iff.1 h
    go_enter Try.func16, Try.ntmps16
    go_wp2_with (go_at_call 27; (with_reducible refine (refIs_any _ _).mono ?_); rintro e w' ⟨rfl, rfl⟩)
    go_ret2
    exact ⟨rfl, rfl⟩
  · have h' : dayB d = false := by simpa using h
    have e : plI d = (0, 9) := by simp [plI, h']
    rw [e]
    clear e h
    go_enter Try.func16, Try.ntmps16
    go_wp2_with (go_at_call 27; (with_reducible refine (refIs_any _ _).mono ?_); rintro e w' ⟨rfl, rfl⟩)
    go_ret2
    exact ⟨rfl, rfl⟩
end Go.Proofs.Ytcgeflblcpdnkaa
