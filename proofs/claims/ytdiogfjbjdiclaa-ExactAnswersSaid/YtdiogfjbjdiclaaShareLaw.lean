/- ExactShares: shares add up, and each is Part of the total, or 1 more. -/
import Derived.Test.YtdiogfjbjdiclaaStable
import Derived.Test.YtdiogfjbjdiclaaAwake
import Derived.OwnWalk
namespace Go.Proofs.Ytdiogfjbjdiclaa
open Go.RowKit Go.Sort Go.Shelf Go.Lib

theorem among_pos (f : Nat → Nat) {t q : Nat} (h : q < t) : 1 ≤ among f t (f q) := by
  induction t with
  | zero => omega
  | succ t ih =>
    rw [among]
    by_cases e : q = t
    · subst e; rw [if_pos rfl]; omega
    · have := ih (by omega); omega
theorem among_none (f : Nat → Nat) {t j : Nat} (h : ∀ q, q < t → f q ≠ j) : among f t j = 0 := by
  induction t with
  | zero => rfl
  | succ t ih => rw [among, ih (fun q hq => h q (by omega)), if_neg (fun e => h t (by omega) e.symm)]
theorem among_one (f : Nat → Nat) {t n : Nat} (ht : t ≤ n) (hi : ∀ p q, p < q → q < n → f p ≠ f q) (j : Nat) : among f t j ≤ 1 := by
  induction t with
  | zero => exact Nat.zero_le _
  | succ t ih =>
    rw [among]
    by_cases e : j = f t
    · rw [among_none f (fun q hq => by rw [e]; exact hi q t hq (by omega)), if_pos e]
      omega
    · rw [if_neg e]; exact ih (by omega)
theorem sumTo_ind (n x : Nat) (hx : x < n) : sumTo (fun j => if j = x then 1 else 0) n = 1 := by
  induction n with
  | zero => omega
  | succ n ih =>
    rw [sumTo]
    by_cases e : x = n
    · subst e
      have : sumTo (fun j => if j = x then 1 else 0) x = sumTo (fun _ => 0) x := sumTo_congr _ _ _ (fun j hj => by rw [if_neg (by omega)])
      rw [this, if_pos rfl]
      have h0 : ∀ k, sumTo (fun _ => 0) k = 0 := fun k => by induction k with | zero => rfl | succ k ih => rw [sumTo, ih]
      rw [h0]
    · rw [ih (by omega), if_neg (fun e2 => e e2.symm)]
theorem among_sum (f : Nat → Nat) (n t : Nat) (h : ∀ q, q < t → f q < n) : sumTo (among f t) n = t := by
  induction t with
  | zero =>
    have h0 : ∀ k, sumTo (among f 0) k = 0 := fun k => by induction k with | zero => rfl | succ k ih => rw [sumTo, ih]; rfl
    exact h0 n
  | succ t ih =>
    have e : sumTo (among f (t + 1)) n = sumTo (fun j => among f t j + if j = f t then 1 else 0) n := sumTo_congr _ _ _ (fun j _ => rfl)
    rw [e, sumTo_add, ih (fun q hq => h q (by omega)), sumTo_ind n (f t) (h t (by omega))]

/-- The law, said of numbers: what holds of each share, and of all. -/
theorem share_facts (n T S : Nat) (hS : 0 < S) (ws f : Nat → Nat) (hs : sumTo ws n = S) (hO : OrderOk n (remF T S ws) f) (hf : ∀ j, j < n → f j < n) :
    sumTo (fun j => baseF T S ws j + among f (T - sumTo (baseF T S ws) n) j) n = T ∧
      ∀ j, j < n → (among f (T - sumTo (baseF T S ws) n) j = 0 ∨ among f (T - sumTo (baseF T S ws) n) j = 1) ∧ (ws j = 0 → baseF T S ws j + among f (T - sumTo (baseF T S ws) n) j = 0) := by
  obtain ⟨l1, l2, l3⟩ := left_facts T S n hS ws hs
  generalize hl : T - sumTo (baseF T S ws) n = lf at *
  refine ⟨?_, fun j hj => ⟨?_, fun hw => ?_⟩⟩
  · rw [sumTo_add, among_sum f n lf (fun q hq => hf q (by omega))]
    omega
  · have := among_one f (t := lf) (n := n) (by omega) (fun p q hpq hq e => by
      have := hO.1 p q hpq hq
      rw [e] at this
      omega) j
    omega
  · have hb : baseF T S ws j = 0 := by unfold baseF; rw [hw]; simp
    have hr : remF T S ws j = 0 := by unfold remF; rw [hw]; simp
    rw [hb, Nat.zero_add]
    refine among_none f fun p hp e => ?_
    -- all remainders that are not 0 stand ahead of p: their sum is at most p times S
    have hle : sumTo (remF T S ws) n ≤ S * p := by
      have hpt : ∀ i, i < n → remF T S ws i ≤ S * among f p i := by
        intro i hi
        by_cases h0 : remF T S ws i = 0
        · rw [h0]; exact Nat.zero_le _
        · obtain ⟨q, hq, rfl⟩ := hO.2 i hi
          have hqp : q < p := by
            by_cases c : q < p
            · exact c
            · exfalso
              by_cases c2 : q = p
              · rw [c2, e] at h0; exact h0 hr
              · have := hO.1 p q (by omega) hq
                rw [e] at this
                omega
          have h1 := among_pos f hqp
          have h2 : remF T S ws (f q) < S := Nat.mod_lt _ hS
          exact Nat.le_trans (Nat.le_of_lt h2) (by
            have := Nat.mul_le_mul_left S h1
            omega)
      have hsum : ∀ m, m ≤ n → sumTo (remF T S ws) m ≤ sumTo (fun i => S * among f p i) m := by
        intro m hm
        induction m with
        | zero => exact Nat.le_refl _
        | succ m ih => rw [sumTo, sumTo]; have := ih (by omega); have := hpt m (by omega); omega
      have := hsum n (Nat.le_refl _)
      rw [sumTo_mul, among_sum f n p (fun q hq => hf q (by omega))] at this
      exact this
    rw [← l3] at hle
    have := Nat.le_of_mul_le_mul_left hle hS
    omega

set_option maxHeartbeats 400000 in
theorem shares_none (T : Nat) (hT : T ≤ 1099511627776) (p : Option Addr) (cap : Nat) (w : World) :
    Calls Try.prog 23 #[.int .i64 T, .slice p 0 cap] w fun e w' => e = .returned (.tuple #[.slice (some ⟨w.heap.size, 0, none⟩) 0 0, .int .i64 0]) ∧ Below w.heap.size w w' := by
  have hmk : ∀ w, (Instr.makeSlice 22 (.int .i64 0) (.int .i64 0)).run Try.prog w = .ok (.slice (some ⟨w.heap.size, 0, none⟩) 0 0) (w.alloc (.cells (madeCells #[.int .i64 0] 0) 3)) := fun w => by
    have := run_make_row' (P := Try.prog) 22 3 (.int .i64 0) 8 Try.underlying22 info_int rfl .i64 .i64 0 (by omega) (by omega) w
    simpa using this
  have hT' : amtB (T : Int) = true := amtB_iff.2 ⟨by omega, by omega⟩
  go_enter Try.func23, Try.ntmps23
  go_wp2_with (go_at_call 26; (with_reducible refine (amount_any _ _).mono ?_); rintro e w' ⟨rfl, rfl⟩)
  go_loop [6, 17] (fun s v => v = .int .i64 0 ∧ s = .int .i64 0) (fun _ _ => 0)
  case atStart => exact ⟨rfl, rfl⟩
  case round =>
    obtain ⟨rfl, rfl⟩ := hrel
    go_wp2
    go_ret2
    exact ⟨rfl, (Below.refl _ _).alloc (Nat.le_refl _) _⟩

set_option maxHeartbeats 400000 in
theorem shares_zero (n : Nat) (hn : n < 65) (T : Nat) (hT : T ≤ 1099511627776) (wb wo cap : Nat) (w : World) (hw : ∀ j, j < n → w.cell? ⟨wb, wo + j, none⟩ = some (.int .i64 0)) :
    Calls Try.prog 23 #[.int .i64 T, .slice (some ⟨wb, wo, none⟩) n cap] w fun e w' => e = .returned (.tuple #[.slice (some ⟨w.heap.size, 0, none⟩) n n, .int .i64 0]) ∧ Below w.heap.size w w' ∧ w'.rowIs w.heap.size 3 n (fun _ => .int .i64 0) := by
  have hmk := fun w => run_make_row' (P := Try.prog) 22 3 (.int .i64 0) 8 Try.underlying22 info_int rfl .i64 .i64 n (by omega) (by omega) w
  have hT' : amtB (T : Int) = true := amtB_iff.2 ⟨by omega, by omega⟩
  have h0 : amtB 0 = true := by decide
  have hnn : ¬ (64 : Int) < (n : Int) := by omega
  have HW := Lib.hid hw
  clear hw
  go_enter Try.func23, Try.ntmps23
  go_wp2_with (go_at_call 26; (with_reducible refine (amount_any _ _).mono ?_); rintro e w' ⟨rfl, rfl⟩)
  go_loop [6, 17] (fun s v => ∃ j : Nat, j ≤ n ∧ v = .int .i64 j ∧ s = .int .i64 0) (fun _ v => n - (intOf v).toNat)
  case atStart => exact ⟨0, Nat.zero_le _, rfl, rfl⟩
  case round =>
    obtain ⟨j, hj, rfl, rfl⟩ := hrel
    by_cases hlt : j < n
    · have hc := HW.out j hlt
      go_wp2_with (go_at_call 26; (with_reducible refine (amount_any _ _).mono ?_); rintro e w' ⟨rfl, rfl⟩)
      go_round
      case rel => exact ⟨j + 1, by omega, by go_num, rfl⟩
      case measure => simp [intOf]; omega
    · obtain rfl : j = n := by omega
      go_wp2
      go_ret2
      exact ⟨rfl, (Below.refl _ _).alloc (Nat.le_refl _) _, World.rowIs_made w (.int .i64 0) j 3⟩

end Go.Proofs.Ytdiogfjbjdiclaa
