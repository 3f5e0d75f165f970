/- CalendarWorking. -/
import Derived.Test.YtcgeflblcpdnkaaCD
namespace Go.Proofs.Ytcgeflblcpdnkaa
open Go.RowKit

/-- Counts of two spans, one behind the other, add up. -/
theorem cntW_add (P : Int → Bool) (a : Int) (m k : Nat) : cntW P a (m + k) = cntW P a m + cntW P (a + m) k := by
  induction k with
  | zero => simp [cntW]
  | succ k ih =>
    rw [← Nat.add_assoc]
    simp only [cntW]
    rw [ih, show a + ((m + k : Nat) : Int) = a + (m : Int) + (k : Int) by omega]
    omega
theorem cntW_le {P Q : Int → Bool} (h : ∀ d, P d = true → Q d = true) (a : Int) (k : Nat) : cntW P a k ≤ cntW Q a k := by
  induction k with
  | zero => simp [cntW]
  | succ k ih =>
    simp only [cntW]
    by_cases hp : P (a + k) = true
    · rw [if_pos hp, if_pos (h _ hp)]; omega
    · rw [if_neg hp]; split <;> omega
/-- A day that comes up once in a span at most. -/
theorem cntW_one (x a : Int) (k : Nat) : cntW (fun d => d == x) a k ≤ 1 ∧ (a + k ≤ x → cntW (fun d => d == x) a k = 0) := by
  induction k with
  | zero => simp [cntW]
  | succ k ih =>
    simp only [cntW]
    by_cases h : (a + (k : Int) == x) = true
    · have h' : a + (k : Int) = x := by simpa using h
      rw [if_pos h, ih.2 (by omega)]
      exact ⟨by omega, fun _ => by omega⟩
    · rw [if_neg h]
      exact ⟨by omega, fun g => by rw [ih.2 (by omega)]; rfl⟩
theorem cntW_or (P Q R : Int → Bool) (h : ∀ d, P d = true → Q d = true ∨ R d = true) (a : Int) (k : Nat) : cntW P a k ≤ cntW Q a k + cntW R a k := by
  induction k with
  | zero => simp [cntW]
  | succ k ih =>
    simp only [cntW]
    by_cases hp : P (a + k) = true
    · rw [if_pos hp]
      rcases h _ hp with h | h
      · rw [if_pos h]; split <;> omega
      · rw [if_pos h]; split <;> omega
    · rw [if_neg hp]; split <;> split <;> omega
/-- Free days are at most as many as there are numbers in the list. -/
theorem cntW_free (n : Nat) (g : Nat → Int) (a : Int) (k : Nat) : cntW (fun d => hasB n g d) a k ≤ n := by
  induction n with
  | zero =>
    have : ∀ k, cntW (fun d => hasB 0 g d) a k = 0 := fun k => by
      induction k with
      | zero => rfl
      | succ k ih =>
        have h0 : hasB 0 g (a + (k : Int)) = false := rfl
        simp only [cntW, ih, h0]; rfl
    rw [this]; simp
  | succ n ih =>
    have h := cntW_or (fun d => hasB (n + 1) g d) (fun d => hasB n g d) (fun d => d == g n) (fun d hd => by
      obtain ⟨j, hj, e⟩ := hasB_iff.1 hd
      by_cases hn : j = n
      · subst hn; exact Or.inr (by simp [e])
      · exact Or.inl (hasB_iff.2 ⟨j, by omega, e⟩)) a k
    have h1 := (cntW_one (g n) a k).1
    omega
theorem work_some (n : Nat) (g : Nat → Int) (a : Int) (k : Nat) : cntW (workB n g) a k ≤ cntW (workB 0 g) a k ∧ cntW (workB 0 g) a k ≤ cntW (workB n g) a k + n := by
  constructor
  · refine cntW_le (fun d hd => ?_) a k
    simp only [workB, hasB_zero] at *
    revert hd
    cases decide (d % 7 < 5) <;> simp
  · have h := cntW_or (workB 0 g) (workB n g) (fun d => hasB n g d) (fun d hd => by
      simp only [workB, hasB_zero] at *
      revert hd
      cases decide (d % 7 < 5) <;> cases hasB n g d <;> simp) a k
    have h2 := cntW_free n g a k
    omega
/-- A week without free days has five working days. -/
theorem work_week (g : Nat → Int) (a : Int) : cntW (workB 0 g) a 7 = 5 := by
  have e : ∀ d, workB 0 g d = decide (d % 7 < 5) := fun d => by simp [workB, hasB_zero]
  simp only [cntW, e]
  have h0 : a + ((0 : Nat) : Int) = a := by omega
  have h : a % 7 = 0 ∨ a % 7 = 1 ∨ a % 7 = 2 ∨ a % 7 = 3 ∨ a % 7 = 4 ∨ a % 7 = 5 ∨ a % 7 = 6 := by omega
  have m : ∀ k : Int, (a + k) % 7 = (a % 7 + k) % 7 := fun k => by omega
  simp only [decide_eq_true_eq, m]
  rcases h with h | h | h | h | h | h | h <;> rw [h] <;> decide

/-- The first loop: the first i free days are in a row of the call's own. -/
structure Built (W w : World) (g : Nat → Int) (i : Nat) (v : Value) : Prop where
  below : Below W.heap.size W w
  owns : w.ownsRow W.heap.size 3 1 v i ((List.range i).map fun j => Value.int .i64 (g j))

theorem Built.next {W w w1 : World} {g : Nat → Int} {i : Nat} {v v' : Value} {o : Obj} (h : Built W w g i v) (h1 : w1.ownsRow W.heap.size 3 1 v' (i + 1) (((List.range i).map fun j => Value.int .i64 (g j)) ++ [Value.int .i64 (g i)])) (h2 : (w.alloc o).grownBy w1 v.ownBlock) : Built W w1 g (i + 1) v' :=
  ⟨(h.below.alloc h.below.size o).grown h2 (by have := h.below.size; simp; omega) (ownsRow_ge h.owns), by rw [List.range_succ, List.map_append]; exact h1⟩

theorem Built.ints {W w : World} {g : Nat → Int} {i : Nat} {v : Value} (h : Built W w g i v) (hg : ∀ j, j < i → (Lit.int .i64 (g j)).wf = true) (hi : i ≤ maxLen) : IntsAt .i64 w v i g := by
  obtain ⟨hl, h2⟩ := h.owns
  rcases h2 with ⟨rfl, h0⟩ | ⟨b, cap, cur, rfl, hb, hh, hnc, _, hcs, hx⟩
  · have : i = 0 := by simpa using h0
    subst this
    exact ⟨none, 0, rfl, hi, fun j hj => by omega⟩
  · refine ⟨_, cap, rfl, hi, fun j hj => ⟨hg j hj, b, 0, rfl, (Array.getElem?_eq_some_iff.1 hh).1, ?_⟩⟩
    have hu : ((List.range i).map fun j => Value.int .i64 (g j))[j]? = some (.int .i64 (g j)) := by simp [hj]
    rw [← hx, List.getElem?_take_of_lt (by omega)] at hu
    simp only [World.cell?, Nat.zero_add]
    rw [hh]
    simpa using hu

theorem workI_ok {a b : Int} (n : Nat) (g : Nat → Int) (h0 : 0 ≤ a) (h1 : a ≤ b) (h2 : b ≤ 36865) (hn : n ≤ 400) : workI a b n g = (cntW (workB n g) a (b - a).toNat, 0) := by
  rw [workI, if_pos ⟨h0, h1, h2⟩, if_neg (by omega)]

theorem info_int : (Try.prog.info? 3).map (fun i => (i.zero, i.size, i.bytes)) = some (some (.int .i64 0), 1, 8) := by kernel_rfl

/-- What CalendarWorking needs of the days x, x + a, x + a + b and of k free days. -/
theorem work_sums (x a b : Int) (ha : 0 ≤ a) (hb : 0 ≤ b) (k : Nat) (g : Nat → Int) :
    cntW (workB k g) x ((x + a + b) - x).toNat = cntW (workB k g) x ((x + a) - x).toNat + cntW (workB k g) (x + a) ((x + a + b) - (x + a)).toNat := by
  rw [show ((x + a + b) - x).toNat = ((x + a) - x).toNat + ((x + a + b) - (x + a)).toNat by omega, cntW_add]
  rw [show x + (((x + a) - x).toNat : Int) = x + a by omega]

def nilG : Nat → Int := fun _ => 0
theorem wf_small {z : Int} (h0 : 0 ≤ z) (h1 : z ≤ 100000) : (Lit.int .i64 z).wf = true := by
  have e1 : IntKind.i64.min = -9223372036854775808 := rfl
  have e2 : IntKind.i64.max = 9223372036854775807 := rfl
  simp [Lit.wf, e1, e2]; omega
theorem nil_ints (w : World) : IntsAt .i64 w (.slice none 0 0) 0 nilG := ⟨none, 0, rfl, Nat.zero_le _, fun j hj => by omega⟩

set_option maxHeartbeats 4000000 in
theorem working_all (f a b : Int) (hf0 : 0 ≤ f) (hf1 : f ≤ 65535) (ha0 : 0 ≤ a) (ha1 : a ≤ 255) (hb0 : 0 ≤ b) (hb1 : b ≤ 255) (v : Value) (n : Nat) (g : Nat → Int) (w : World) (hI : IntsAt .u8 w v n g) :
    Calls Try.prog 6 #[.int .u16 f, .int .u8 a, .int .u8 b, v] w fun e w' => e = .returned (.bool true) ∧ Below w.heap.size w w' := by
  obtain ⟨p, cap, rfl, hm, hI⟩ := hI
  unfold maxLen at hm
  obtain ⟨i0, hi, hz0, hz1, hz2⟩ := info_parts info_int
  have HI := Lib.hid hI
  have hnz : (n : Int) ≤ 9223372036854775807 := by omega
  clear hI
  have hx0 : 0 ≤ f % 30000 := by omega
  have hx1 : f % 30000 < 30000 := by omega
  go_enter Try.func6, Try.ntmps6
  go_wp2
  generalize f % 30000 = x at *
  go_loopw [12, 13] (fun v5 v7 wr => ∃ i : Nat, i ≤ n ∧ i ≤ 50 ∧ v7 = .int .i64 i ∧ Built w wr (fun j => x + g j) i v5) (fun _ v _ => 50 - (intOf v).toNat)
  case atStart => exact ⟨0, Nat.zero_le _, Nat.zero_le _, rfl, ⟨Below.refl _ _, ⟨rfl, Or.inl ⟨rfl, rfl⟩⟩⟩⟩
  case round =>
    obtain ⟨i, hin, hi64, rfl, HB⟩ := hrel
    by_cases h1 : i < n
    · by_cases h2 : i < 50
      · have z1 : (i : Int) < (n : Int) := by omega
        have z2 : (i : Int) < 50 := by omega
        have z0 : (0 : Int) ≤ (i : Int) := by omega
        obtain ⟨hgw, cb, off, rfl, hb, hc0⟩ := HI.out i h1
        have hg0 := wf_u8 hgw
        obtain ⟨hg1, hg2⟩ := hg0
        have hc : wr.cell? ⟨cb, off + i, none⟩ = some (.int .u8 (g i)) := by rw [HB.below.cell (by exact hb)]; exact hc0
        have hown := HB.owns
        clear hgw hc0
        generalize hxs : ((List.range i).map fun j => Value.int .i64 (x + g j)) = xs at hown
        go_wp2_with (first | (at_builtin; refine wpList_append_own _ rfl _ _ 24 rfl w.heap.size 3 i0 (.int .i64 0) 1 8 Try.underlying24 hi hz0 hz1 hz2 rfl (by decide) _ _ _ rfl (hown.alloc _) ⟨wr.heap.size, 0, none⟩ 1 1 [.int .i64 (x + g i)] rfl rfl ?c1 ?c2 ?c3 ?c4 ?c5 ?_))
        case c1 =>
          intro j u hu
          cases j with
          | zero => simp at hu; subst hu; simp [Addr.add]
          | succ j => simp at hu
        case c2 => intro u hu; simp at hu; subst hu; rfl
        case c3 => unfold maxLen; omega
        case c4 => omega
        case c5 => have := HB.below.size; simp; omega
        intro v' w1 hown1 hgrow _
        subst hxs
        have HB2 : Built w w1 (fun j => x + g j) (i + 1) v' := HB.next hown1 hgrow
        have HB3 := Lib.hid HB2
        clear hown hown1 hgrow HB hc HB2
        go_wp2
        go_roundw
        case rel => exact ⟨i + 1, by omega, by omega, by go_num, HB3.out⟩
        case measure => simp [intOf]; omega
      · have z2 : ¬ (i : Int) < 50 := by omega
        have hgw : ∀ j, j < i → (Lit.int .i64 (x + g j)).wf = true := fun j hj => by
          have hj2 := wf_u8 (HI.out j (by omega)).1
          exact wf_small (by omega) (by omega)
        have hints := HB.ints hgw (by unfold maxLen; omega)
        have hbel := HB.below
        have hsh : ∃ p5 c5, u12 = .slice p5 i c5 := by
          obtain ⟨p5, c5, e5, _⟩ := hints
          exact ⟨p5, c5, e5⟩
        obtain ⟨p5, c5, rfl⟩ := hsh
        have H1 := fun (w' : World) (hb : Below wr.heap.size wr w') => calWorking_any x (x + a) _ i _ w' (hints.kept hb)
        have H2 := fun (w' : World) (hb : Below wr.heap.size wr w') => calWorking_any (x + a) (x + a + b) _ i _ w' (hints.kept hb)
        have H3 := fun (w' : World) (hb : Below wr.heap.size wr w') => calWorking_any x (x + a + b) _ i _ w' (hints.kept hb)
        have H4 := fun (w' : World) => calWorking_any x (x + 7) _ 0 _ w' (nil_ints w')
        have H5 := fun (w' : World) => calWorking_any x (x + a + b) _ 0 _ w' (nil_ints w')
        rw [workI_ok _ _ (by omega) (by omega) (by omega) (by omega)] at H1 H2 H3
        rw [workI_ok _ _ (by omega) (by omega) (by omega) (by omega)] at H4 H5
        rw [work_sums x a b ha0 hb0] at H3
        rw [show (x + 7 - x).toNat = 7 by omega, work_week] at H4
        have hU := work_some i (fun j => x + g j) x (x + a + b - x).toNat
        rw [work_sums x a b ha0 hb0] at hU
        obtain ⟨hU1, hU2⟩ := hU
        have hU3 : workB 0 nilG = workB 0 (fun j => x + g j) := rfl
        rw [hU3] at H5
        have hN := cntW_bd (workB 0 (fun j => x + g j)) x (x + a + b - x).toNat
        have hP := cntW_bd (workB i (fun j => x + g j)) x (x + a - x).toNat
        have hQ := cntW_bd (workB i (fun j => x + g j)) (x + a) (x + a + b - (x + a)).toNat
        generalize cntW (workB 0 (fun j => x + g j)) x (x + a + b - x).toNat = N at *
        generalize cntW (workB i (fun j => x + g j)) x (x + a - x).toNat = P at *
        generalize cntW (workB i (fun j => x + g j)) (x + a) (x + a + b - (x + a)).toNat = Q at *
        have q1 : P ≤ 255 := by omega
        have q2 : Q ≤ 255 := by omega
        have q3 : N ≤ 510 := by omega
        obtain ⟨q4, _⟩ := hP
        obtain ⟨q5, _⟩ := hQ
        obtain ⟨q6, _⟩ := hN
        have q7 : (i : Int) ≤ 50 := by omega
        clear hU3 hgw HI HB
        go_wp2_with fail
        refine (H1 _ (Below.refl _ _)).mono ?_
        rintro e w1 ⟨rfl, hb1⟩
        have HB1 := Lib.hid hb1
        clear hb1
        go_wp2_with fail
        refine (H2 _ HB1.out).mono ?_
        rintro e w2 ⟨rfl, hb2⟩
        have HB2 := Lib.hid (below_step HB1.out hb2)
        clear hb2
        go_wp2_with fail
        refine (H3 _ HB2.out).mono ?_
        rintro e w3 ⟨rfl, hb3⟩
        have HB3 := Lib.hid (below_step HB2.out hb3)
        clear hb3
        go_wp2_with fail
        refine (H4 _).mono ?_
        rintro e w4 ⟨rfl, hb4⟩
        have HB4 := Lib.hid (below_step HB3.out hb4)
        clear hb4
        go_wp2_with fail
        refine (H5 _).mono ?_
        rintro e w5 ⟨rfl, hb5⟩
        have HB5 := Lib.hid (below_step HB4.out hb5)
        clear hb5 H1 H2 H3 H4 H5 hints
        go_wp2_with (go_at_call 7; (with_reducible refine (awake_any _).mono ?_); rintro e w9 ⟨rfl, hb9⟩)
        all_goals
          go_ret
          exact ⟨ret_bool (by simp), hbel.trans ((below_step HB5.out hb9).mono hbel.size)⟩
    · have z2 : ¬ (i : Int) < (n : Int) := by omega
      have hgw : ∀ j, j < i → (Lit.int .i64 (x + g j)).wf = true := fun j hj => by
        have hj2 := wf_u8 (HI.out j (by omega)).1
        exact wf_small (by omega) (by omega)
      have hints := HB.ints hgw (by unfold maxLen; omega)
      have hbel := HB.below
      have hsh : ∃ p5 c5, u12 = .slice p5 i c5 := by
        obtain ⟨p5, c5, e5, _⟩ := hints
        exact ⟨p5, c5, e5⟩
      obtain ⟨p5, c5, rfl⟩ := hsh
      have H1 := fun (w' : World) (hb : Below wr.heap.size wr w') => calWorking_any x (x + a) _ i _ w' (hints.kept hb)
      have H2 := fun (w' : World) (hb : Below wr.heap.size wr w') => calWorking_any (x + a) (x + a + b) _ i _ w' (hints.kept hb)
      have H3 := fun (w' : World) (hb : Below wr.heap.size wr w') => calWorking_any x (x + a + b) _ i _ w' (hints.kept hb)
      have H4 := fun (w' : World) => calWorking_any x (x + 7) _ 0 _ w' (nil_ints w')
      have H5 := fun (w' : World) => calWorking_any x (x + a + b) _ 0 _ w' (nil_ints w')
      rw [workI_ok _ _ (by omega) (by omega) (by omega) (by omega)] at H1 H2 H3
      rw [workI_ok _ _ (by omega) (by omega) (by omega) (by omega)] at H4 H5
      rw [work_sums x a b ha0 hb0] at H3
      rw [show (x + 7 - x).toNat = 7 by omega, work_week] at H4
      have hU := work_some i (fun j => x + g j) x (x + a + b - x).toNat
      rw [work_sums x a b ha0 hb0] at hU
      obtain ⟨hU1, hU2⟩ := hU
      have hU3 : workB 0 nilG = workB 0 (fun j => x + g j) := rfl
      rw [hU3] at H5
      have hN := cntW_bd (workB 0 (fun j => x + g j)) x (x + a + b - x).toNat
      have hP := cntW_bd (workB i (fun j => x + g j)) x (x + a - x).toNat
      have hQ := cntW_bd (workB i (fun j => x + g j)) (x + a) (x + a + b - (x + a)).toNat
      generalize cntW (workB 0 (fun j => x + g j)) x (x + a + b - x).toNat = N at *
      generalize cntW (workB i (fun j => x + g j)) x (x + a - x).toNat = P at *
      generalize cntW (workB i (fun j => x + g j)) (x + a) (x + a + b - (x + a)).toNat = Q at *
      have q1 : P ≤ 255 := by omega
      have q2 : Q ≤ 255 := by omega
      have q3 : N ≤ 510 := by omega
      obtain ⟨q4, _⟩ := hP
      obtain ⟨q5, _⟩ := hQ
      obtain ⟨q6, _⟩ := hN
      have q7 : (i : Int) ≤ 50 := by omega
      clear hU3 hgw HI HB
      go_wp2_with fail
      refine (H1 _ (Below.refl _ _)).mono ?_
      rintro e w1 ⟨rfl, hb1⟩
      have HB1 := Lib.hid hb1
      clear hb1
      go_wp2_with fail
      refine (H2 _ HB1.out).mono ?_
      rintro e w2 ⟨rfl, hb2⟩
      have HB2 := Lib.hid (below_step HB1.out hb2)
      clear hb2
      go_wp2_with fail
      refine (H3 _ HB2.out).mono ?_
      rintro e w3 ⟨rfl, hb3⟩
      have HB3 := Lib.hid (below_step HB2.out hb3)
      clear hb3
      go_wp2_with fail
      refine (H4 _).mono ?_
      rintro e w4 ⟨rfl, hb4⟩
      have HB4 := Lib.hid (below_step HB3.out hb4)
      clear hb4
      go_wp2_with fail
      refine (H5 _).mono ?_
      rintro e w5 ⟨rfl, hb5⟩
      have HB5 := Lib.hid (below_step HB4.out hb5)
      clear hb5 H1 H2 H3 H4 H5 hints
      go_wp2_with (go_at_call 7; (with_reducible refine (awake_any _).mono ?_); rintro e w9 ⟨rfl, hb9⟩)
      all_goals
        go_ret
        exact ⟨ret_bool (by simp), hbel.trans ((below_step HB5.out hb9).mono hbel.size)⟩

theorem working_walk (a0 : Int) (w0 : (Lit.int .u16 a0).wf = true) (a1 : Int) (w1 : (Lit.int .u8 a1).wf = true) (a2 : Int) (w2 : (Lit.int .u8 a2).wf = true) (v3 : Value) (n3 : Nat) (g3 : Nat → Int) (W : World) (I3 : IntsAt .u8 W v3 n3 g3) :
    Calls Try.prog 6 #[.int .u16 a0, .int .u8 a1, .int .u8 a2, v3] W fun e w' => e = .returned (.bool true) ∧ Below W.heap.size W w' :=
  working_all a0 a1 a2 (wf_u16 w0).1 (wf_u16 w0).2 (wf_u8 w1).1 (wf_u8 w1).2 (wf_u8 w2).1 (wf_u8 w2).2 v3 n3 g3 W I3
end Go.Proofs.Ytcgeflblcpdnkaa
