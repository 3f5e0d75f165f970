/- The reference's Shares: errors, and what it answers where all weights are 0. -/
import Derived.Test.YtdiogfjbjdiclaaRefE
import Derived.Test.YtdiogfjbjdiclaaRefD
namespace Go.Proofs.Ytdiogfjbjdiclaa
open Go.RowKit

def okTo (g : Nat → Int) : Nat → Bool
  | 0 => true
  | j + 1 => okTo g j && amtB (g j)

theorem okTo_iff (g : Nat → Int) (n : Nat) : okTo g n = true ↔ ∀ j, j < n → amtB (g j) = true := by
  induction n with
  | zero => exact ⟨fun _ j h => by omega, fun _ => rfl⟩
  | succ n ih =>
    rw [okTo, Bool.and_eq_true, ih]
    exact ⟨fun h j hj => by
      by_cases e : j = n
      · rw [e]; exact h.2
      · exact h.1 j (by omega), fun h => ⟨fun j hj => h j (by omega), h n (by omega)⟩⟩

theorem okTo_f {g : Nat → Int} {n : Nat} (h : okTo g n = false) : ∃ m, m < n ∧ (∀ j, j < m → amtB (g j) = true) ∧ amtB (g m) = false := by
  induction n with
  | zero => simp [okTo] at h
  | succ n ih =>
    by_cases e : okTo g n = true
    · exact ⟨n, by omega, (okTo_iff g n).1 e, by simpa [okTo, e] using h⟩
    · obtain ⟨m, h1, h2, h3⟩ := ih (by simpa using e)
      exact ⟨m, by omega, h2, h3⟩

theorem bad0_neg {T : Int} {g : Nat → Int} (h : T < 0) : true = !(amtB T && okTo g 0) := by
  have : amtB T = false := amtB_f.2 (.inl h)
  rw [this]; rfl
theorem bad0 {T : Int} {g : Nat → Int} (h : 0 ≤ T) : decide (1099511627776 < T) = !(amtB T && okTo g 0) := by
  by_cases h2 : T ≤ 1099511627776
  · rw [amtB_iff.2 ⟨h, h2⟩, decide_eq_false (by omega)]; rfl
  · rw [amtB_f.2 (.inr (by omega)), decide_eq_true (by omega)]; rfl
theorem bad0_or {T : Int} {g : Nat → Int} : (decide (T < 0) || decide (1099511627776 < T)) = !(amtB T && okTo g 0) := by
  by_cases h : T < 0
  · rw [decide_eq_true h, ← bad0_neg h]; rfl
  · rw [decide_eq_false h, ← bad0 (by omega)]; rfl

theorem nb_f {T : Int} {g : Nat → Int} {j : Nat} {b : Bool} (hb : b = (amtB T && okTo g j)) (h : b = false) : true = !(amtB T && okTo g (j + 1)) := by
  rw [okTo, ← Bool.and_assoc, ← hb, h]; rfl
theorem nb_t {T : Int} {g : Nat → Int} {j : Nat} {b : Bool} (hb : b = (amtB T && okTo g j)) (h : b = true) : (decide (g j < 0) || decide (1099511627776 < g j)) = !(amtB T && okTo g (j + 1)) := by
  rw [okTo, ← Bool.and_assoc, ← hb, h, Bool.true_and]
  by_cases h1 : g j < 0
  · rw [amtB_f.2 (.inl h1), decide_eq_true h1]; rfl
  · by_cases h2 : g j ≤ 1099511627776
    · rw [amtB_iff.2 ⟨by omega, h2⟩, decide_eq_false h1, decide_eq_false (by omega)]; rfl
    · rw [amtB_f.2 (.inr (by omega)), decide_eq_false h1, decide_eq_true (by omega)]; rfl

set_option maxHeartbeats 400000 in
theorem refShares_limit (T : Int) (n : Nat) (hn : 64 < n) (p : Option Addr) (cap : Nat) (w : World) :
    Calls Try.prog 24 #[.int .i64 T, .slice p n cap] w fun e w' => e = .returned (.tuple #[.slice none 0 0, .int .i64 1]) ∧ w = w' := by
  have hnz : (64 : Int) < (n : Int) := by omega
  go_enter Try.func24, Try.ntmps24
  go_wp2_with fail
  go_ret2
  exact ⟨rfl, rfl⟩

set_option maxHeartbeats 1000000 in
theorem refShares_bad (T : Int) (n : Nat) (hn : n < 65) (p : Option Addr) (cap wb wo : Nat) (g : Nat → Int) (w : World) (hp : 0 < n → p = some ⟨wb, wo, none⟩) (hw : ∀ j, j < n → w.cell? ⟨wb, wo + j, none⟩ = some (.int .i64 (g j)))
    (hbad : (amtB T && okTo g n) = false) :
    Calls Try.prog 24 #[.int .i64 T, .slice p n cap] w fun e w' => e = .returned (.tuple #[.slice none 0 0, .int .i64 2]) ∧ w = w' := by
  have hnz : ¬ (64 : Int) < (n : Int) := by omega
  have HW := Lib.hid hw
  have HB := Lib.hid hbad
  have HP := Lib.hid hp
  clear hw hbad hp
  go_enter Try.func24, Try.ntmps24
  go_wp2_with fail
  all_goals (
    go_loop [7, 31] (fun s v => ∃ j : Nat, j ≤ n ∧ v = .int .i64 j ∧ s = .bool (!(amtB T && okTo g j))) (fun _ v => n - (intOf v).toNat)
    case atStart => exact ⟨0, Nat.zero_le _, rfl, by first | exact congrArg Value.bool bad0_or | exact congrArg Value.bool (bad0_neg (by omega)) | exact congrArg Value.bool (bad0 (by omega))⟩
    case round =>
      obtain ⟨j, hj, rfl, rfl⟩ := hrel
      by_cases hlt : j < n
      · obtain rfl := HP.out (by omega)
        have hc := HW.out j hlt
        have hlt' : (j : Int) < (n : Int) := by omega
        obtain ⟨b, hb⟩ : ∃ b, b = (amtB T && okTo g j) := ⟨_, rfl⟩
        rw [← hb]
        have hn1 := nb_f (b := b) hb
        have hn2 := nb_t (b := b) hb
        have HN1 := Lib.hid hn1
        have HN2 := Lib.hid hn2
        clear hn1 hn2 hb
        generalize g j = gj at *
        cases b
        all_goals (
          go_wp2_with fail
          all_goals exact ⟨⟨j + 1, by omega, by go_num, congrArg Value.bool (by first | exact HN1.out rfl | exact HN2.out rfl | (rw [← HN2.out rfl, decide_eq_true (by omega)]; rfl) | (rw [← HN2.out rfl, decide_eq_false (by omega)]; rfl))⟩, by simp [intOf]; omega⟩)
      · obtain rfl : j = n := by omega
        rw [HB.out]
        go_wp2_with fail
        go_ret2
        exact ⟨rfl, rfl⟩)
end Go.Proofs.Ytdiogfjbjdiclaa
