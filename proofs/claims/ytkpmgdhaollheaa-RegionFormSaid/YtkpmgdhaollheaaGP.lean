/- The reference: inside, keep, same, Put. -/
import Derived.Test.YtkpmgdhaollheaaGN
namespace Go.Proofs.Ytkpmgdhaollheaa
open Go.RowKit Go.Shelf

theorem insR_eq (r : Rc) (x y : Int) : insR r x y = decide (r.l ≤ x ∧ x < r.r ∧ r.b ≤ y ∧ y < r.h) := by
  simp only [insR]
  by_cases h1 : r.l ≤ x <;> by_cases h2 : x < r.r <;> by_cases h3 : r.b ≤ y <;> by_cases h4 : y < r.h <;> simp [h1, h2, h3, h4]
theorem inside_take_no {l : List Rc} {k : Nat} {x y : Int} (hk : k < l.length) (h : insideB (l.take k) x y = false) (h2 : insR l[k]! x y = false) : insideB (l.take (k + 1)) x y = false := by
  rw [List.take_succ_eq_append_getElem hk, insideB, List.any_append, ← getElem!_pos l k hk]
  simp only [insideB] at h
  rw [h, Bool.false_or, List.any_cons, List.any_nil, Bool.or_false, h2]
theorem inside_yes {l : List Rc} {k : Nat} {x y : Int} (hk : k < l.length) (h2 : insR l[k]! x y = true) : insideB l x y = true := by
  rw [insideB, List.any_eq_true]
  exact ⟨l[k]!, by rw [getElem!_pos l k hk]; exact List.getElem_mem _, h2⟩

set_option maxHeartbeats 2000000 in
set_option maxRecDepth 100000 in
theorem refInside_any (v : Value) (l : List Rc) (x y : Int) (w : World) (h : RectsAt w v l) :
    Calls Try.prog 68 #[v, .int .i64 x, .int .i64 y] w fun e w' => e = .returned (.bool (insideB l x y)) ∧ Below w.heap.size w w' := by
  obtain ⟨p, cap, rfl, hm, hcp, h⟩ := h
  have hm' : (l.length : Int) ≤ 9223372036854775807 := by unfold maxLen at hm; omega
  have HL := Lib.hid h
  obtain ⟨n, hn⟩ : ∃ n, n = l.length := ⟨_, rfl⟩
  rw [← hn] at hm' ⊢
  have N := Lib.hid hn
  clear h hm hcp hn
  go_enter Try.func68, Try.ntmps68
  go_wp2
  go_loopw [11] (fun i wr => ∃ k : Nat, k ≤ n ∧ i = .int .i64 k ∧ insideB (l.take k) x y = false ∧ Below w.heap.size w wr) (fun i _ => n - (intOf i).toNat)
  case atStart => exact ⟨0, Nat.zero_le _, rfl, rfl, Below.refl _ _⟩
  case round =>
    obtain ⟨k, hk, rfl, hall, hb⟩ := hrel
    by_cases hkn : k < n
    · obtain ⟨b, off, rfl, hlt, hc⟩ := HL.out k (by rw [← N.out]; exact hkn)
      obtain ⟨c0, c1, c2, c3⟩ := hc.below hb hlt
      have hkn' : (k : Int) < (n : Int) := by omega
      have HN := Lib.hid (fun h2 => inside_take_no (l := l) (k := k) (x := x) (y := y) (by rw [← N.out]; exact hkn) hall h2)
      have HY := Lib.hid (fun h2 => inside_yes (l := l) (k := k) (x := x) (y := y) (by rw [← N.out]; exact hkn) h2)
      rw [insR_eq] at HN HY
      have HB := Lib.hid hb
      clear hc hb hall
      generalize l[k]! = r at *
      by_cases h1 : r.l ≤ x
      · by_cases h2 : x < r.r
        · by_cases h3 : r.b ≤ y
          · by_cases h4 : y < r.h
            · have HR := Lib.hid (HY.out (decide_eq_true ⟨h1, h2, h3, h4⟩))
              go_wp2
              go_ret
              exact ⟨ret_bool HR.out.symm, HB.out.alloc HB.out.size _⟩
            · have HR := Lib.hid (HN.out (decide_eq_false fun h => h4 h.2.2.2))
              go_wp2
              go_roundw
              case rel => exact ⟨k + 1, by omega, by simp, HR.out, HB.out.alloc HB.out.size _⟩
              case measure => simp [intOf]; omega
          · have HR := Lib.hid (HN.out (decide_eq_false fun h => h3 h.2.2.1))
            go_wp2
            go_roundw
            case rel => exact ⟨k + 1, by omega, by simp, HR.out, HB.out.alloc HB.out.size _⟩
            case measure => simp [intOf]; omega
        · have HR := Lib.hid (HN.out (decide_eq_false fun h => h2 h.2.1))
          go_wp2
          go_roundw
          case rel => exact ⟨k + 1, by omega, by simp, HR.out, HB.out.alloc HB.out.size _⟩
          case measure => simp [intOf]; omega
      · have HR := Lib.hid (HN.out (decide_eq_false fun h => h1 h.1))
        go_wp2
        go_roundw
        case rel => exact ⟨k + 1, by omega, by simp, HR.out, HB.out.alloc HB.out.size _⟩
        case measure => simp [intOf]; omega
    · have HB := Lib.hid hb
      have C1 := Lib.hid (show insideB l x y = false by rw [List.take_of_length_le (by rw [← N.out]; omega)] at hall; exact hall)
      obtain rfl : k = n := by omega
      clear hall hb
      go_wp2
      go_ret
      exact ⟨ret_bool C1.out.symm, HB.out⟩

def refK (how : Int) (a b : Bool) : Bool := if how = 1 then a || b else if how = 2 then a && b else a && !b
theorem refK_ff (how : Int) : refK how false false = false := by
  unfold refK
  split
  · rfl
  · split <;> rfl

set_option maxHeartbeats 1000000 in
theorem refKeep_any (a b : Bool) (how : Int) (w : World) :
    Calls Try.prog 83 #[.bool a, .bool b, .int .i64 how] w fun e w' => e = .returned (.bool (refK how a b)) ∧ w = w' := by
  by_cases h1 : how = 1
  · subst h1
    have e : refK 1 a b = (a || b) := rfl
    rw [e]
    cases a
    all_goals
      go_enter Try.func83, Try.ntmps83
      go_wp2
      go_ret
      exact ⟨rfl, rfl⟩
  · by_cases h2 : how = 2
    · subst h2
      have e : refK 2 a b = (a && b) := rfl
      rw [e]
      cases a
      all_goals
        go_enter Try.func83, Try.ntmps83
        go_wp2
        go_ret
        exact ⟨rfl, rfl⟩
    · have e : refK how a b = (a && !b) := by unfold refK; rw [if_neg h1, if_neg h2]
      rw [e]
      have e1 : (how == 1) = false := beq_eq_false_iff_ne.2 h1
      have e2 : (how == 2) = false := beq_eq_false_iff_ne.2 h2
      clear e
      cases a
      all_goals
        go_enter Try.func83, Try.ntmps83
        go_wp2
        go_ret
        exact ⟨rfl, rfl⟩

theorem sameB_len : ∀ {l m : List Rc}, l.length ≠ m.length → sameB l m = false
  | [], [], h => absurd rfl h
  | [], _ :: _, _ => rfl
  | _ :: _, [], _ => rfl
  | r :: l, s :: m, h => by
    simp only [sameB]
    rw [sameB_len (l := l) (m := m) (by simpa using h), Bool.and_false]
theorem sameB_no {l m : List Rc} {k : Nat} (hk : k < l.length) (hm : k < m.length) (h : ¬ (l[k]!.l = m[k]!.l ∧ l[k]!.r = m[k]!.r)) : sameB l m = false := by
  induction l generalizing m k with
  | nil => simp at hk
  | cons r l ih =>
    cases m with
    | nil => simp at hm
    | cons s m =>
      simp only [sameB]
      cases k with
      | zero =>
        have h' : ¬ (r.l = s.l ∧ r.r = s.r) := by simpa using h
        rw [decide_eq_false h', Bool.false_and]
      | succ k => rw [ih (k := k) (m := m) (by simpa using hk) (by simpa using hm) (by simpa using h), Bool.and_false]
theorem sameB_yes {l m : List Rc} (hl : l.length = m.length) (h : ∀ k, k < l.length → l[k]!.l = m[k]!.l ∧ l[k]!.r = m[k]!.r) : sameB l m = true := by
  induction l generalizing m with
  | nil => cases m with
    | nil => rfl
    | cons s m => simp at hl
  | cons r l ih =>
    cases m with
    | nil => simp at hl
    | cons s m =>
      have h0 := h 0 (by simp)
      simp only [sameB, ih (m := m) (by simpa using hl) (fun k hk => by simpa using h (k + 1) (by simpa using hk)), Bool.and_true, decide_eq_true_eq]
      simpa using h0

set_option maxHeartbeats 2000000 in
set_option maxRecDepth 100000 in
theorem refSame_any (v1 v2 : Value) (l m : List Rc) (w : World) (h1 : RowRd w 4 encR v1 l) (h2 : RowRd w 4 encR v2 m) (hl : l.length ≤ 100000000) (hm : m.length ≤ 100000000) :
    Calls Try.prog 84 #[v1, v2] w fun e w' => e = .returned (.bool (sameB l m)) ∧ ∃ q, w' = w.drewN q := by
  obtain ⟨p1, c1, rfl, h1⟩ := h1
  obtain ⟨p2, c2, rfl, h2⟩ := h2
  by_cases hlen : l.length = m.length
  · have HL := Lib.hid h1
    have HM := Lib.hid h2
    rw [← hlen]
    have N := Lib.hid hlen
    obtain ⟨n, hn⟩ : ∃ n, n = l.length := ⟨_, rfl⟩
    rw [← hn]
    have N2 := Lib.hid hn
    have hn' : (n : Int) ≤ 100000000 := by omega
    clear h1 h2 hlen hn
    go_enter Try.func84, Try.ntmps84
    go_wp2
    go_loopw [13] (fun i wr => ∃ k q : Nat, k ≤ n ∧ i = .int .i64 k ∧ (∀ j, j < k → l[j]!.l = m[j]!.l ∧ l[j]!.r = m[j]!.r) ∧ wr = w.drewN q) (fun i _ => n - (intOf i).toNat)
    case atStart => exact ⟨0, 0, Nat.zero_le _, rfl, fun j hj => absurd hj (Nat.not_lt_zero _), rfl⟩
    case round =>
      obtain ⟨k, q, hk, rfl, hall, rfl⟩ := hrel
      by_cases hkn : k < n
      · obtain ⟨b, o, rfl, hc⟩ := HL.out k (by rw [← N2.out]; exact hkn)
        obtain ⟨b', o', rfl, hc'⟩ := HM.out k (by rw [← N.out, ← N2.out]; exact hkn)
        have d0 := hc 0 _ rfl
        have d2 := hc 2 _ rfl
        have g0 := hc' 0 _ rfl
        have g2 := hc' 2 _ rfl
        simp only [Nat.add_zero] at d0 g0
        have hkn' : (k : Int) < (n : Int) := by omega
        have hk0 : (0 : Int) ≤ (k : Int) := by omega
        have HNo := Lib.hid (fun h => sameB_no (l := l) (m := m) (k := k) (by rw [← N2.out]; exact hkn) (by rw [← N.out, ← N2.out]; exact hkn) h)
        have HS := Lib.hid (show (l[k]!.l = m[k]!.l ∧ l[k]!.r = m[k]!.r) → ∀ j, j < k + 1 → l[j]!.l = m[j]!.l ∧ l[j]!.r = m[j]!.r from fun h1 j hj => by
          rcases Nat.lt_or_ge j k with h | h
          · exact hall j h
          · obtain rfl : j = k := by omega
            exact h1)
        clear hc hc' hall
        generalize l[k]! = r at *
        generalize m[k]! = s at *
        by_cases e1 : r.l = s.l
        · by_cases e2 : r.r = s.r
          · go_wp2
            go_quiet (fail)
            go_wp2
            go_roundw
            case rel => exact ⟨k + 1, _, by omega, by simp, HS.out ⟨e1, e2⟩, rfl⟩
            case measure => simp [intOf]; omega
          · have e2' : (r.r == s.r) = false := beq_eq_false_iff_ne.2 e2
            have HR := Lib.hid (HNo.out fun h => e2 h.2)
            go_wp2
            go_quiet (fail)
            go_wp2
            go_ret
            exact ⟨ret_bool HR.out.symm, _, World.drewN_drewN _ _ _⟩
        · have e1' : (r.l == s.l) = false := beq_eq_false_iff_ne.2 e1
          have HR := Lib.hid (HNo.out fun h => e1 h.1)
          go_wp2
          go_quiet (fail)
          go_wp2
          go_ret
          exact ⟨ret_bool HR.out.symm, _, World.drewN_drewN _ _ _⟩
      · have HR := Lib.hid (sameB_yes N.out fun j hj => hall j (by rw [← N2.out] at hj; omega))
        obtain rfl : k = n := by omega
        clear hall
        go_wp2
        go_ret
        exact ⟨ret_bool HR.out.symm, q, rfl⟩
  · rw [sameB_len hlen]
    generalize l.length = n at *
    generalize m.length = k at *
    have hne : ((n : Int) == (k : Int)) = false := beq_eq_false_iff_ne.2 (by omega)
    have hne2 : (n : Int) ≠ (k : Int) := by omega
    clear h1 h2
    go_enter Try.func84, Try.ntmps84
    go_wp2
    go_ret
    exact ⟨rfl, 0, rfl⟩

/-- One number more, in its place. -/
def putL (n : Int) : List Int → List Int
  | [] => [n]
  | x :: l => if x < n then x :: putL n l else if x = n then x :: l else n :: x :: l
theorem putL_mem (n : Int) : ∀ (l : List Int) (c : Int), c ∈ putL n l ↔ c = n ∨ c ∈ l
  | [], c => by simp [putL]
  | x :: l, c => by
    simp only [putL]
    split
    · simp only [List.mem_cons, putL_mem n l c]
      constructor
      · rintro (h | h | h)
        · exact .inr (.inl h)
        · exact .inl h
        · exact .inr (.inr h)
      · rintro (h | h | h)
        · exact .inr (.inl h)
        · exact .inl h
        · exact .inr (.inr h)
    · split
      · rename_i h
        subst h
        simp
      · simp
theorem putL_up (n : Int) : ∀ (l : List Int), l.Pairwise (· < ·) → (putL n l).Pairwise (· < ·)
  | [], _ => by simp [putL]
  | x :: l, h => by
    have h' := List.pairwise_cons.1 h
    simp only [putL]
    split
    · rename_i hx
      refine List.pairwise_cons.2 ⟨fun y hy => ?_, putL_up n l h'.2⟩
      rcases (putL_mem n l y).1 hy with rfl | hy
      · exact hx
      · exact h'.1 y hy
    · split
      · exact h
      · refine List.pairwise_cons.2 ⟨fun y hy => ?_, h⟩
        rcases List.mem_cons.1 hy with rfl | hy
        · omega
        · have := h'.1 y hy; omega
theorem putL_len (n : Int) : ∀ (l : List Int), (putL n l).length ≤ l.length + 1
  | [] => by simp [putL]
  | x :: l => by
    simp only [putL]
    have := putL_len n l
    split
    · simp; omega
    · split <;> simp
theorem putL_at (n : Int) : ∀ (l : List Int) (k : Nat), k ≤ l.length → (∀ j, j < k → l[j]! < n) → (k = l.length ∨ ¬ l[k]! < n) → putL n l = if k < l.length ∧ l[k]! = n then l else l.take k ++ n :: l.drop k
  | [], k, hk, _, _ => by
    have : k = 0 := by simpa using hk
    subst this
    simp [putL]
  | x :: l, 0, _, _, h => by
    have hx : ¬ x < n := by
      rcases h with h | h
      · simp at h
      · simpa using h
    simp only [putL, if_neg hx]
    by_cases e : x = n
    · simp [e]
    · simp [e]
  | x :: l, k + 1, hk, ha, h => by
    have hx : x < n := by simpa using ha 0 (by omega)
    have ih := putL_at n l k (by simpa using hk) (fun j hj => by simpa using ha (j + 1) (by omega)) (by simpa using h)
    simp only [putL, if_pos hx, ih]
    by_cases e : k < l.length ∧ l[k]! = n
    · rw [if_pos e, if_pos (by simpa using e)]
    · rw [if_neg e, if_neg (by simpa using e)]
      rfl
end Go.Proofs.Ytkpmgdhaollheaa
