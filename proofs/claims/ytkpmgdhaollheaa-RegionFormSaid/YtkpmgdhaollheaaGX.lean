/- The reference's Rects and Same. -/
import Derived.Test.YtkpmgdhaollheaaGU
namespace Go.Proofs.Ytkpmgdhaollheaa
open Go.RowKit Go.Shelf

theorem list_eq_of {a b : List Rc} (h : a.length = b.length) (h2 : ∀ j, j < a.length → a[j]! = b[j]!) : a = b := by
  apply List.ext_getElem h
  intro j h3 h4
  have := h2 j h3
  rwa [getElem!_pos a j h3, getElem!_pos b j h4] at this

set_option maxHeartbeats 2000000 in
set_option maxRecDepth 100000 in
theorem refRects_any (va vb : Value) (a b : List Rc) (w : World) (ha : RectsAt w va a) (hb : RectsAt w vb b) :
    Calls Try.prog 51 #[va, vb] w fun e w' => RetB e (a = b) ∧ Below w.heap.size w w' := by
  obtain ⟨pa, ca, rfl, hma, _, ha⟩ := ha
  obtain ⟨pb, cb, rfl, hmb, _, hb⟩ := hb
  have hma' : (a.length : Int) ≤ 9223372036854775807 := by unfold maxLen at hma; omega
  have HA := Lib.hid ha
  have HB := Lib.hid hb
  clear ha hb hma hmb
  by_cases hl : a.length = b.length
  · obtain ⟨n, hn⟩ : ∃ n, n = a.length := ⟨_, rfl⟩
    have hnb : n = b.length := by omega
    rw [← hn] at hma' ⊢
    rw [← hnb]
    have NA := Lib.hid hn
    have NB := Lib.hid hnb
    clear hl hn hnb
    go_enter Try.func51, Try.ntmps51
    go_wp2
    go_loopw [13] (fun i wr => ∃ k : Nat, k ≤ n ∧ i = .int .i64 k ∧ (∀ j, j < k → a[j]! = b[j]!) ∧ Below w.heap.size w wr) (fun i _ => n - (intOf i).toNat)
    case atStart => exact ⟨0, Nat.zero_le _, rfl, fun j hj => absurd hj (Nat.not_lt_zero _), Below.refl _ _⟩
    case round =>
      obtain ⟨k, hk, rfl, hall, hb⟩ := hrel
      have hk0 : (0 : Int) ≤ (k : Int) := by omega
      by_cases hkn : k < n
      · have hkn' : (k : Int) < (n : Int) := by omega
        obtain ⟨b1, o1, rfl, hlt1, hc1⟩ := HA.out k (by rw [← NA.out]; exact hkn)
        obtain ⟨b2, o2, rfl, hlt2, hc2⟩ := HB.out k (by rw [← NB.out]; exact hkn)
        obtain ⟨c0, c1, c2, c3⟩ := hc1.below hb hlt1
        obtain ⟨d0, d1, d2, d3⟩ := hc2.below hb hlt2
        have HBl := Lib.hid hb
        clear hb
        have HY := Lib.hid (fun (e : a[k]! = b[k]!) => (show ∀ j, j < k + 1 → a[j]! = b[j]! from fun j hj => by
          rcases Nat.lt_or_ge j k with h | h
          · exact hall j h
          · obtain rfl : j = k := by omega
            exact e))
        have HN := Lib.hid (fun (e : ¬ a[k]! = b[k]!) => (show ¬ a = b from fun h => e (by rw [h])))
        clear hall
        generalize a[k]! = p at *
        generalize b[k]! = q at *
        by_cases hpq : p = q
        · subst hpq
          have HS := Lib.hid (HY.out rfl)
          go_wp2
          go_quiet (fail)
          go_wp2
          go_roundw
          case rel => exact ⟨k + 1, by omega, by simp, HS.out, below_drewN HBl.out _⟩
          case measure => simp [intOf]; omega
        · have HS := Lib.hid (HN.out hpq)
          have h4 : ¬ (p.l = q.l ∧ p.b = q.b ∧ p.r = q.r ∧ p.h = q.h) := fun h => hpq (by
            obtain ⟨x, y, z, u⟩ := p
            obtain ⟨x', y', z', u'⟩ := q
            simp only at h
            rw [h.1, h.2.1, h.2.2.1, h.2.2.2])
          clear hpq HY HN
          by_cases e0 : p.l = q.l
          · by_cases e1 : p.b = q.b
            · by_cases e2 : p.r = q.r
              · by_cases e3 : p.h = q.h
                · exact absurd ⟨e0, e1, e2, e3⟩ h4
                · have b3 : (p.h == q.h) = false := beq_eq_false_iff_ne.2 e3
                  clear h4
                  rw [e0] at c0
                  rw [e1] at c1
                  rw [e2] at c2
                  go_wp2
                  go_quiet (fail)
                  go_wp2
                  go_ret
                  exact ⟨RetB.no HS.out, below_drewN HBl.out _⟩
              · have b3 : (p.r == q.r) = false := beq_eq_false_iff_ne.2 e2
                clear h4
                go_wp2
                go_quiet (fail)
                go_wp2
                go_ret
                exact ⟨RetB.no HS.out, below_drewN HBl.out _⟩
            · have b3 : (p.b == q.b) = false := beq_eq_false_iff_ne.2 e1
              clear h4
              go_wp2
              go_quiet (fail)
              go_wp2
              go_ret
              exact ⟨RetB.no HS.out, below_drewN HBl.out _⟩
          · have b3 : (p.l == q.l) = false := beq_eq_false_iff_ne.2 e0
            clear h4
            go_wp2
            go_quiet (fail)
            go_wp2
            go_ret
            exact ⟨RetB.no HS.out, below_drewN HBl.out _⟩
      · have HS := Lib.hid (show a = b from list_eq_of (by rw [← NA.out]; exact NB.out) fun j hj => hall j (by rw [← NA.out] at hj; omega))
        obtain rfl : k = n := by omega
        clear hall
        go_wp2
        go_ret
        exact ⟨RetB.yes HS.out, by assumption⟩
  · have hl' : ¬ (a.length : Int) = (b.length : Int) := by omega
    have hl2 : ((a.length : Int) == (b.length : Int)) = false := beq_eq_false_iff_ne.2 hl'
    have HS := Lib.hid (show ¬ a = b from fun h => hl (by rw [h]))
    go_enter Try.func51, Try.ntmps51
    go_wp2
    go_ret
    exact ⟨RetB.no HS.out, Below.refl _ _⟩
end Go.Proofs.Ytkpmgdhaollheaa
