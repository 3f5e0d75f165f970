/- A canonical form of few rectangles has few rectangles. -/
import Derived.Test.YtkpmgdhaollheaaGSet
namespace Go.Proofs.Ytkpmgdhaollheaa

theorem ups_le : ∀ (a b : List Int), a.Pairwise (· < ·) → (∀ x ∈ a, x ∈ b) → a.length ≤ b.length
  | [], _, _, _ => Nat.zero_le _
  | x :: a, b, hp, h => by
    obtain ⟨h1, h2⟩ := List.pairwise_cons.1 hp
    have hx := h x List.mem_cons_self
    have ih := ups_le a (b.erase x) h2 fun y hy => (List.mem_erase_of_ne (by have := h1 y hy; omega)).2 (h y (List.mem_cons_of_mem _ hy))
    rw [List.length_erase_of_mem hx] at ih
    have := List.length_pos_of_mem hx
    simp only [List.length_cons]
    omega

theorem rch.ups {γ : Type} : ∀ {l : List (Run γ)}, rch l → (l.map (·.lo)).Pairwise (· < ·)
  | [], _ => List.Pairwise.nil
  | r :: rs, h => by
    rw [List.map_cons, List.pairwise_cons]
    refine ⟨fun x hx => ?_, h.2.2.ups⟩
    obtain ⟨s, hs, rfl⟩ := List.mem_map.1 hx
    have := h.tail_low s hs
    have := h.1
    omega

theorem rval_at {γ : Type} {d : γ} : ∀ {l : List (Run γ)}, rch l → ∀ r ∈ l, rval d l r.lo = r.c
  | r :: rs, h, q, hq => by
    rcases List.mem_cons.1 hq with rfl | hq
    · rw [rval, if_pos ⟨Int.le_refl _, h.1⟩]
    · rw [rval, if_neg (by have := h.tail_low q hq; omega)]
      exact rval_at h.2.2 q hq

/-- Where a run begins, the colour changes. -/
theorem run_start {γ : Type} {d : γ} : ∀ {l : List (Run γ)}, rok d l → ∀ r ∈ l, rval d l (r.lo - 1) ≠ r.c
  | r :: rs, ⟨h, hc⟩, q, hq => by
    rcases List.mem_cons.1 hq with rfl | hq'
    · rw [rval_low h fun t ht => by cases ht; omega]
      exact (hc _ List.mem_cons_self).symm
    · have hlow := h.tail_low q hq'
      have ih := run_start (d := d) ⟨h.2.2, fun s hs => hc s (List.mem_cons_of_mem _ hs)⟩ q hq'
      by_cases hl : r.hi = q.lo
      · rw [rval, if_pos ⟨by have := h.1; omega, by omega⟩]
        cases rs with
        | nil => cases hq'
        | cons s ss =>
          have hs := h.2.1 s rfl
          rcases List.mem_cons.1 hq' with rfl | hq2
          · exact hs.2 hl
          · have := h.2.2.tail_low q hq2
            have := h.2.2.1
            omega
      · rw [rval, if_neg (by omega)]
        exact ih

theorem flat_few {n : Nat} : ∀ {bs : List Band}, (∀ b ∈ bs, b.c.length ≤ n) → (flat bs).length ≤ bs.length * n
  | [], _ => by simp [flat]
  | b :: bs, h => by
    have h1 := h b List.mem_cons_self
    have h2 := flat_few (bs := bs) fun c hc => h c (List.mem_cons_of_mem _ hc)
    rw [flat_cons, List.length_append, List.length_map, List.length_cons, Nat.add_mul]
    omega

/-- As many rectangles as rows may begin, times as many as may begin in a row. -/
theorem form_few {m l : List Rc} (h : CanonFor (insideB m) l) : l.length ≤ 2 * m.length * m.length := by
  obtain ⟨bs, ⟨hr, hs⟩, hk, rfl⟩ := h
  have hbands : bs.length ≤ 2 * m.length := by
    have := ups_le (bs.map (·.lo)) (m.map (·.b) ++ m.map (·.h)) hr.1.ups fun x hx => by
      obtain ⟨b, hb, rfl⟩ := List.mem_map.1 hx
      rcases Classical.em (b.lo ∈ m.map (·.b) ++ m.map (·.h)) with h | h
      · exact h
      · exfalso
        have h1 := run_start hr b hb
        rw [← rval_at (d := []) hr.1 b hb] at h1
        refine h1 (spans_unique (Canon.sok ⟨hr, hs⟩ _) (Canon.sok ⟨hr, hs⟩ _) fun x => ?_)
        rw [hk, hk]
        refine inside_rows (by omega) fun r hrm => ?_
        have e1 : r.b ≠ b.lo := fun e => h (List.mem_append.2 (.inl (List.mem_map.2 ⟨r, hrm, e⟩)))
        have e2 : r.h ≠ b.lo := fun e => h (List.mem_append.2 (.inr (List.mem_map.2 ⟨r, hrm, e⟩)))
        omega
    rw [List.length_map, List.length_append, List.length_map, List.length_map] at this
    omega
  have hspans : ∀ b ∈ bs, b.c.length ≤ m.length := fun b hb => by
    have hsb := hs b hb
    have hv := rval_at (d := []) hr.1 b hb
    have := ups_le (b.c.map (·.1)) (m.map (·.l)) (by
      have := hsb.ups
      rwa [runs, List.map_map] at this) fun x hx => by
      obtain ⟨s, hsm, rfl⟩ := List.mem_map.1 hx
      have hm : (⟨s.1, s.2, true⟩ : Run Bool) ∈ runs b.c := List.mem_map.2 ⟨s, hsm, rfl⟩
      have h1 := run_start (d := false) ⟨hsb, runs_true⟩ _ hm
      have h2 := rval_at (d := false) hsb _ hm
      have k1 : insideB m s.1 b.lo = true := by rw [← hk, hv]; exact h2
      have k2 : ¬ insideB m (s.1 - 1) b.lo = true := by rw [← hk, hv]; exact h1
      rw [insideB, List.any_eq_true] at k1
      obtain ⟨r, hrm, hin⟩ := k1
      have k3 : ¬ insR r (s.1 - 1) b.lo = true := fun h => k2 (by rw [insideB, List.any_eq_true]; exact ⟨r, hrm, h⟩)
      refine List.mem_map.2 ⟨r, hrm, ?_⟩
      simp only [insR, Bool.and_eq_true, decide_eq_true_eq] at hin k3
      omega
    rw [List.length_map, List.length_map] at this
    exact this
  exact Nat.le_trans (flat_few hspans) (Nat.mul_le_mul_right _ hbands)
theorem rch.lt {γ : Type} : ∀ {l : List (Run γ)}, rch l → ∀ r ∈ l, r.lo < r.hi
  | r :: rs, h, q, hq => by
    rcases List.mem_cons.1 hq with rfl | hq
    · exact h.1
    · exact h.2.2.lt q hq

theorem canonical_up {l : List Rc} (h : Canonical l) : ∀ q ∈ l, q.l < q.r ∧ q.b < q.h := by
  obtain ⟨bs, ⟨hr, hs⟩, rfl⟩ := h
  intro q hq
  obtain ⟨b, hb, hq⟩ := List.mem_flatMap.1 hq
  obtain ⟨s, hsm, rfl⟩ := List.mem_map.1 hq
  exact ⟨(hs b hb).lt ⟨s.1, s.2, true⟩ (List.mem_map.2 ⟨s, hsm, rfl⟩), hr.1.lt b hb⟩

theorem canon_proper {m l : List Rc} (h : CanonFor (insideB m) l) (hp : ∀ r ∈ m, properR r) : ∀ q ∈ l, properR q := by
  intro q hq
  obtain ⟨h1, h2⟩ := canonical_up h.canonical q hq
  have key : ∀ x y, q.l ≤ x → x < q.r → q.b ≤ y → y < q.h → ∃ r ∈ m, r.l ≤ x ∧ x < r.r ∧ r.b ≤ y ∧ y < r.h := fun x y a b c d => by
    have k1 : insideB l x y = true := by
      rw [insideB, List.any_eq_true]
      exact ⟨q, hq, by simp [insR, a, b, c, d]⟩
    rw [h.inside, insideB, List.any_eq_true] at k1
    obtain ⟨r, hr, hin⟩ := k1
    simp only [insR, Bool.and_eq_true, decide_eq_true_eq] at hin
    exact ⟨r, hr, hin.1.1.1, hin.1.1.2, hin.1.2, hin.2⟩
  obtain ⟨r, hr, a, _, c, _⟩ := key q.l q.b (Int.le_refl _) h1 (Int.le_refl _) h2
  obtain ⟨s, hs, _, f, _, g⟩ := key (q.r - 1) (q.h - 1) (by omega) (by omega) (by omega) (by omega)
  obtain ⟨p0, _, _, p3, _, _⟩ := hp r hr
  obtain ⟨_, _, q2, _, _, q5⟩ := hp s hs
  exact ⟨by omega, h1, by omega, by omega, h2, by omega⟩
end Go.Proofs.Ytkpmgdhaollheaa
