/- Rectangles in memory; ordered, allProper. -/
import Derived.Test.YtkpmgdhaollheaaGEdge
import Derived.Test.YtkpmgdhaollheaaBase
namespace Go.Proofs.Ytkpmgdhaollheaa
open Go.RowKit

/-- The cells of one rectangle. -/
def RcAt (w : World) (b o : Nat) (r : Rc) : Prop :=
  w.cell? ⟨b, o, none⟩ = some (.int .i64 r.l) ∧ w.cell? ⟨b, o + 1, none⟩ = some (.int .i64 r.b) ∧ w.cell? ⟨b, o + 2, none⟩ = some (.int .i64 r.r) ∧ w.cell? ⟨b, o + 3, none⟩ = some (.int .i64 r.h)

theorem RcAt.below {w w' : World} {b o B : Nat} {r : Rc} (h : RcAt w b o r) (hb : Below B w w') (hB : b < B) : RcAt w' b o r :=
  ⟨(hb.cell (by exact hB)).trans h.1, (hb.cell (by exact hB)).trans h.2.1, (hb.cell (by exact hB)).trans h.2.2.1, (hb.cell (by exact hB)).trans h.2.2.2⟩

/-- A slice of rectangles. -/
def RectsAt (w : World) (v : Value) (l : List Rc) : Prop :=
  ∃ p cap, v = .slice p l.length cap ∧ l.length ≤ maxLen ∧ l.length ≤ cap ∧ ∀ j, j < l.length → ∃ b off, p = some ⟨b, off, none⟩ ∧ b < w.heap.size ∧ RcAt w b (off + j * 4) l[j]!

theorem RectsAt.below {w w' : World} {v : Value} {l : List Rc} (h : RectsAt w v l) (hb : Below w.heap.size w w') : RectsAt w' v l := by
  obtain ⟨p, cap, rfl, hm, hcp, h⟩ := h
  refine ⟨p, cap, rfl, hm, hcp, fun j hj => ?_⟩
  obtain ⟨b, off, rfl, hlt, hc⟩ := h j hj
  exact ⟨b, off, rfl, Nat.lt_of_lt_of_le hlt hb.size, hc.below hb hlt⟩

theorem RectsAt.nil (w : World) : RectsAt w (.slice none 0 0) [] := ⟨none, 0, rfl, Nat.zero_le _, Nat.le_refl _, fun j hj => by cases hj⟩

def ordB (a b : Int) : Bool := decide (0 ≤ a ∧ a < b ∧ b ≤ 16384)

set_option maxHeartbeats 400000 in
theorem ordered_any (a b : Int) (w : World) : Calls Try.prog 78 #[.int .i64 a, .int .i64 b] w fun e w' => e = .returned (.bool (ordB a b)) ∧ w = w' := by
  by_cases h : 0 ≤ a
  · by_cases h1 : a < b
    · go_enter Try.func78, Try.ntmps78
      go_wp2
      go_ret
      exact ⟨ret_bool (by simp [ordB, h, h1]), rfl⟩
    · go_enter Try.func78, Try.ntmps78
      go_wp2
      go_ret
      exact ⟨ret_bool (by simp [ordB]; omega), rfl⟩
  · go_enter Try.func78, Try.ntmps78
    go_wp2
    go_ret
    exact ⟨ret_bool (by simp [ordB]; omega), rfl⟩

theorem properR_ord (r : Rc) : decide (properR r) = (ordB r.l r.r && ordB r.b r.h) := by
  unfold ordB
  rw [← Bool.decide_and, decide_eq_decide]
  unfold properR
  omega

set_option maxHeartbeats 1000000 in
theorem allProper_any (v : Value) (l : List Rc) (w : World) (h : RectsAt w v l) :
    Calls Try.prog 53 #[v] w fun e w' => e = .returned (.bool (allP l)) ∧ Below w.heap.size w w' := by
  obtain ⟨p, cap, rfl, hm, hcp, h⟩ := h
  have hm' : (l.length : Int) ≤ 9223372036854775807 := by unfold maxLen at hm; omega
  generalize hn : l.length = n at *
  go_enter Try.func53, Try.ntmps53
  go_wp2
  go_loopw [7] (fun i wr => ∃ k : Nat, k ≤ n ∧ i = .int .i64 k ∧ allP (l.take k) = true ∧ Below w.heap.size w wr) (fun i _ => n - (intOf i).toNat)
  case atStart => exact ⟨0, Nat.zero_le _, rfl, rfl, Below.refl _ _⟩
  case round =>
    obtain ⟨k, hk, rfl, hall, hb⟩ := hrel
    by_cases hkn : k < n
    · obtain ⟨b, off, rfl, hlt, hc⟩ := h k hkn
      obtain ⟨c0, c1, c2, c3⟩ := hc.below hb hlt
      have hkn' : (k : Int) < (n : Int) := by omega
      have C1 := Lib.hid (show (ordB l[k]!.l l[k]!.r && ordB l[k]!.b l[k]!.h) = true → allP (l.take (k + 1)) = true by
        intro e
        rw [List.take_succ_eq_append_getElem (by omega), allP, List.all_append]
        have e2 : l[k]! = l[k]'(by omega) := getElem!_pos ..
        rw [e2, ← properR_ord] at e
        simpa [allP, e] using hall)
      have C2 := Lib.hid (show (ordB l[k]!.l l[k]!.r && ordB l[k]!.b l[k]!.h) = false → allP l = false by
        intro e
        have e2 : l[k]! = l[k]'(by omega) := getElem!_pos ..
        rw [e2, ← properR_ord] at e
        rw [allP, List.all_eq_false]
        exact ⟨_, List.getElem_mem _, by rw [e]; decide⟩)
      have HB := Lib.hid hb
      clear h hc hb hall
      generalize l[k]! = r at *
      by_cases e1 : ordB r.l r.r = true
      · by_cases e2 : ordB r.b r.h = true
        · have C3 := Lib.hid (C1.out (by rw [e1, e2]; rfl))
          go_wp2_with (go_at_call 78; refine (ordered_any _ _ _).mono ?_; rintro e w' ⟨rfl, rfl⟩)
          go_roundw
          case rel => exact ⟨k + 1, by omega, by simp, C3.out, HB.out.alloc HB.out.size _⟩
          case measure => simp [intOf]; omega
        · have e2' : ordB r.b r.h = false := by simpa using e2
          have C3 := Lib.hid (C2.out (by rw [e1, e2']; rfl))
          clear e2
          go_wp2_with (go_at_call 78; refine (ordered_any _ _ _).mono ?_; rintro e w' ⟨rfl, rfl⟩)
          go_ret
          exact ⟨ret_bool C3.out.symm, HB.out.alloc HB.out.size _⟩
      · have e1' : ordB r.l r.r = false := by simpa using e1
        have C3 := Lib.hid (C2.out (by rw [e1']; rfl))
        clear e1
        go_wp2_with (go_at_call 78; refine (ordered_any _ _ _).mono ?_; rintro e w' ⟨rfl, rfl⟩)
        go_ret
        exact ⟨ret_bool C3.out.symm, HB.out.alloc HB.out.size _⟩
    · have HB := Lib.hid hb
      have C1 := Lib.hid (show allP l = true by rw [List.take_of_length_le (by omega)] at hall; exact hall)
      obtain rfl : k = n := by omega
      clear h hall hb
      go_wp2
      go_ret
      exact ⟨ret_bool C1.out.symm, HB.out⟩
end Go.Proofs.Ytkpmgdhaollheaa
