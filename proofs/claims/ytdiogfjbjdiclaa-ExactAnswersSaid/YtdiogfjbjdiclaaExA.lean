/- The contracts of package exact's small functions. -/
import Derived.Test.YtdiogfjbjdiclaaRows
import Derived.Test.YtdiogfjbjdiclaaMath
import Derived.Test.YtdiogfjbjdiclaaShelf
import Derived.WalkKit
import Derived.WalkSpells
import Derived.WalkLawsBesides
import Derived.BigQuiet
import Derived.Deep.QuietTactic
namespace Go.Proofs.Ytdiogfjbjdiclaa
open Go.RowKit

def divB (n : Int) : Bool := decide (1 ≤ n) && decide (n ≤ 1099511627776)
def amtB (n : Int) : Bool := decide (0 ≤ n) && decide (n ≤ 1099511627776)
def fracB (a b : Int) : Bool := decide (-1125899906842624 ≤ a) && decide (a ≤ 1125899906842624) && divB b

theorem divB_iff {n : Int} : divB n = true ↔ 1 ≤ n ∧ n ≤ 1099511627776 := by simp [divB]
theorem divB_f {n : Int} : divB n = false ↔ n < 1 ∨ 1099511627776 < n := by
  rw [← Bool.not_eq_true, divB_iff]; omega
theorem amtB_iff {n : Int} : amtB n = true ↔ 0 ≤ n ∧ n ≤ 1099511627776 := by simp [amtB]
theorem amtB_f {n : Int} : amtB n = false ↔ n < 0 ∨ 1099511627776 < n := by
  rw [← Bool.not_eq_true, amtB_iff]; omega
theorem fracB_iff {a b : Int} : fracB a b = true ↔ (-1125899906842624 ≤ a ∧ a ≤ 1125899906842624) ∧ 1 ≤ b ∧ b ≤ 1099511627776 := by
  simp [fracB, divB_iff]
theorem fracB_t {a b : Int} (h1 : -1125899906842624 ≤ a) (h2 : a ≤ 1125899906842624) (h3 : 1 ≤ b) (h4 : b ≤ 1099511627776) : fracB a b = true :=
  fracB_iff.2 ⟨⟨h1, h2⟩, h3, h4⟩
theorem ret_bool {a b : Bool} (h : a = b) : Ending.returned (.bool a) = .returned (.bool b) := by rw [h]
theorem ret_int {k : IntKind} {a b : Int} (h : a = b) : Ending.returned (.int k a) = .returned (.int k b) := by rw [h]

/-- Down, Up, Half and Less, said of whole numbers. -/
def downI (a b : Int) : Int := if fracB a b then a / b else 0
def upI (a b : Int) : Int := if fracB a b then -(-a / b) else 0
def halfI (a b : Int) : Int := if fracB a b then (2 * a + b) / (2 * b) else 0
def lessB (a b c d : Int) : Bool := fracB a b && fracB c d && decide (a * d < c * b)

set_option maxHeartbeats 400000 in
theorem divisor_any (n : Int) (w : World) :
    Calls Try.prog 27 #[.int .i64 n] w fun e w' => e = .returned (.bool (divB n)) ∧ w = w' := by
  by_cases h1 : 1 ≤ n
  · by_cases h2 : n ≤ 1099511627776
    · have hr : divB n = true := divB_iff.2 ⟨h1, h2⟩
      go_enter Try.func27, Try.ntmps27
      go_wp2
      go_ret
      exact ⟨ret_bool (by first | (simp; done) | (simp [hr]; done)), rfl⟩
    · have hr : divB n = false := divB_f.2 (by omega)
      go_enter Try.func27, Try.ntmps27
      go_wp2
      go_ret
      exact ⟨ret_bool (by first | (simp; done) | (simp [hr]; done)), rfl⟩
  · have hr : divB n = false := divB_f.2 (by omega)
    go_enter Try.func27, Try.ntmps27
    go_wp2
    go_ret
    exact ⟨ret_bool (by first | (simp; done) | (simp [hr]; done)), rfl⟩

set_option maxHeartbeats 400000 in
theorem amount_any (n : Int) (w : World) :
    Calls Try.prog 26 #[.int .i64 n] w fun e w' => e = .returned (.bool (amtB n)) ∧ w = w' := by
  by_cases h1 : 0 ≤ n
  · by_cases h2 : n ≤ 1099511627776
    · have hr : amtB n = true := amtB_iff.2 ⟨h1, h2⟩
      go_enter Try.func26, Try.ntmps26
      go_wp2
      go_ret
      exact ⟨ret_bool (by first | (simp; done) | (simp [hr]; done)), rfl⟩
    · have hr : amtB n = false := amtB_f.2 (by omega)
      go_enter Try.func26, Try.ntmps26
      go_wp2
      go_ret
      exact ⟨ret_bool (by first | (simp; done) | (simp [hr]; done)), rfl⟩
  · have hr : amtB n = false := amtB_f.2 (by omega)
    go_enter Try.func26, Try.ntmps26
    go_wp2
    go_ret
    exact ⟨ret_bool (by first | (simp; done) | (simp [hr]; done)), rfl⟩

set_option maxHeartbeats 400000 in
theorem fraction_any (a b : Int) (w : World) :
    Calls Try.prog 31 #[.int .i64 a, .int .i64 b] w fun e w' => e = .returned (.bool (fracB a b)) ∧ w = w' := by
  by_cases h1 : -1125899906842624 ≤ a
  · by_cases h2 : a ≤ 1125899906842624
    · have hr : fracB a b = divB b := by simp [fracB, h1, h2]
      rw [hr]
      clear hr
      go_enter Try.func31, Try.ntmps31
      go_wp2_with (go_at_call 27; refine (divisor_any _ _).mono ?_; rintro e w' ⟨rfl, rfl⟩)
      go_ret
      exact ⟨rfl, rfl⟩
    · have hr : fracB a b = false := by simp [fracB, h1, h2]
      rw [hr]
      clear hr
      go_enter Try.func31, Try.ntmps31
      go_wp2
      go_ret
      exact ⟨ret_bool (by first | (simp; done) | (simp [hr]; done)), rfl⟩
  · have hr : fracB a b = false := by simp [fracB, h1]
    rw [hr]
    clear hr
    go_enter Try.func31, Try.ntmps31
    go_wp2
    go_ret
    exact ⟨ret_bool (by first | (simp; done) | (simp [hr]; done)), rfl⟩

theorem wrap_in {x : Int} (h1 : -9223372036854775808 ≤ x) (h2 : x ≤ 9223372036854775807) : wrap64 x = x := by
  exact IntWalk.wrap64_in x ⟨h1, h2⟩

set_option maxHeartbeats 400000 in
theorem floor_any (a b : Int) (w : World) (ha : -4611686018427387904 ≤ a) (ha2 : a ≤ 4611686018427387904) (hb : 1 ≤ b) :
    Calls Try.prog 32 #[.int .i64 a, .int .i64 b] w fun e w' => e = .returned (.int .i64 (a / b)) ∧ w = w' := by
  have hd := ediv_bd hb ha ha2
  go_enter Try.func32, Try.ntmps32
  go_wp2
  · have h : a.tmod b < 0 := by assumption
    go_ret
    refine ⟨ret_int ?_, rfl⟩
    rw [tdiv_neg_rest hb h]
    exact wrap_in (by omega) (by omega)
  · have h : 0 ≤ a.tmod b := by assumption
    go_ret
    exact ⟨ret_int (tdiv_pos_rest hb h), rfl⟩

end Go.Proofs.Ytdiogfjbjdiclaa
