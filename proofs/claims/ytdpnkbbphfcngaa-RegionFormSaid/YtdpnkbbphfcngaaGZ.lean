/- The law RegionForm: halves and wholes, reversed. -/
import Derived.Test.YtdpnkbbphfcngaaGY
import Derived.Test.YtdpnkbbphfcngaaGFew
namespace Go.Proofs.Ytdpnkbbphfcngaa
open Go.RowKit Go.Shelf

/-- The pieces of the first j rectangles. -/
structure Pc (l P : List Rc) (j : Nat) : Prop where
  len : P.length ≤ 2 * j
  ok : ∀ r ∈ P, properR r
  same : ∀ x y, insideB P x y = insideB (l.take j) x y

theorem insideB_append (a b : List Rc) (x y : Int) : insideB (a ++ b) x y = (insideB a x y || insideB b x y) := by simp [insideB]
theorem inside_take {l : List Rc} {k : Nat} (hk : k < l.length) (x y : Int) : insideB (l.take (k + 1)) x y = (insideB (l.take k) x y || insR l[k]! x y) := by
  rw [List.take_succ_eq_append_getElem hk, insideB_append, ← getElem!_pos l k hk]
  simp [insideB]
theorem Pc.one {l P : List Rc} {j : Nat} (h : Pc l P j) (hj : j < l.length) (hr : properR l[j]!) {q : Rc} (hq : q = l[j]!) : Pc l (P ++ [q]) (j + 1) := by
  subst hq
  refine ⟨by have := h.len; simp; omega, fun r hm => ?_, fun x y => ?_⟩
  · rcases List.mem_append.1 hm with hm | hm
    · exact h.ok r hm
    · rw [List.mem_singleton] at hm; subst hm; exact hr
  · rw [insideB_append, inside_take hj, h.same]
    simp [insideB]
theorem Pc.two {l P : List Rc} {j : Nat} (h : Pc l P j) (hj : j < l.length) (hr : properR l[j]!) {m : Int} (h1 : l[j]!.l < m) (h2 : m < l[j]!.r) : Pc l (P ++ [⟨l[j]!.l, l[j]!.b, m, l[j]!.h⟩] ++ [⟨m, l[j]!.b, l[j]!.r, l[j]!.h⟩]) (j + 1) := by
  refine ⟨by have := h.len; simp; omega, fun r hm => ?_, fun x y => ?_⟩
  · obtain ⟨a, b, c, d, e, f⟩ := hr
    rcases List.mem_append.1 hm with hm | hm
    · rcases List.mem_append.1 hm with hm | hm
      · exact h.ok r hm
      · rw [List.mem_singleton] at hm; subst hm; exact ⟨a, h1, (show m ≤ 16384 by omega), d, e, f⟩
    · rw [List.mem_singleton] at hm; subst hm; exact ⟨(show 0 ≤ m by omega), h2, c, d, e, f⟩
  · rw [insideB_append, insideB_append, inside_take hj, h.same, Bool.or_assoc]
    congr 1
    generalize l[j]! = q at *
    obtain ⟨ql, qb, qr, qh⟩ := q
    simp only at h1 h2
    rw [Bool.eq_iff_iff]
    simp only [insideB, insR, List.any_cons, List.any_nil, Bool.or_false, Bool.or_eq_true, Bool.and_eq_true, decide_eq_true_eq]
    omega

/-- What the law's list holds while it is turned round. -/
structure Tn (P L : List Rc) : Prop where
  len : L.length = P.length
  mem : ∀ r, r ∈ L ↔ r ∈ P

theorem Tn.inside {P L : List Rc} (h : Tn P L) (x y : Int) : insideB L x y = insideB P x y := by
  rw [Bool.eq_iff_iff]
  simp only [insideB, List.any_eq_true, h.mem]
theorem mem_swap {L : List Rc} {i k : Nat} (hi : i < L.length) (hk : k < L.length) (hik : i ≠ k) (r : Rc) : r ∈ (L.set i L[k]!).set k L[i]! ↔ r ∈ L := by
  rw [getElem!_pos L k hk, getElem!_pos L i hi]
  constructor
  · intro h
    rcases List.mem_or_eq_of_mem_set h with h | rfl
    · rcases List.mem_or_eq_of_mem_set h with h | rfl
      · exact h
      · exact List.getElem_mem _
    · exact List.getElem_mem _
  · intro h
    obtain ⟨j, hj, rfl⟩ := List.mem_iff_getElem.1 h
    rw [List.mem_iff_getElem]
    by_cases e1 : j = i
    · subst e1
      exact ⟨k, by simpa using hk, by simp⟩
    · by_cases e2 : j = k
      · subst e2
        exact ⟨i, by simpa using hi, by rw [List.getElem_set, if_neg (fun e => hik e.symm)]; simp⟩
      · exact ⟨j, by simpa using hj, by rw [List.getElem_set, if_neg (fun e => e2 e.symm), List.getElem_set, if_neg (fun e => e1 e.symm)]⟩
theorem Tn.swap {P L : List Rc} (h : Tn P L) {i k : Nat} (hi : i < L.length) (hk : k < L.length) (hik : i ≠ k) : Tn P ((L.set i L[k]!).set k L[i]!) :=
  ⟨by simpa using h.len, fun r => (mem_swap hi hk hik r).trans (h.mem r)⟩

/-- THE LAW: the pieces and the whole have the form of the whole. -/
theorem form_back {a P L : List Rc} (ha : Canonical a) (hp : ∀ r ∈ a, properR r) (hl : a.length ≤ 40) (h : Pc a P a.length) (ht : Tn P L) {out : List Rc} {e : Int} (ho : OfR (L ++ a) out e) : out = a ∧ e = 0 := by
  have hlen : (L ++ a).length ≤ 120 := by have := h.len; rw [List.length_append, ht.len]; omega
  refine ho.det (.inr (.inr ⟨hlen, allP_iff.2 fun r hm => ?_, a, ha.for.congr fun x y => ?_, .inr ⟨by omega, rfl, rfl⟩⟩))
  · rcases List.mem_append.1 hm with hm | hm
    · exact h.ok r ((ht.mem r).1 hm)
    · exact hp r hm
  · rw [insideB_append, ht.inside, h.same, List.take_length, Bool.or_self]

/-- What comes back from a tape is canonical, proper, and small. -/
theorem drawn_ok {w w' : World} {tb : Nat} {n : Int} {most : Nat} {v : Value} {l : List Rc} (h : Drawn w w' tb n most v l) (hn : n ≤ 16384) (hm : most ≤ 4) : Canonical l ∧ (∀ r ∈ l, properR r) ∧ l.length ≤ 32 := by
  obtain ⟨m, e, hlen, hin, hof⟩ := h.of
  have nilc : Canonical ([] : List Rc) := ⟨[], ⟨⟨trivial, fun r hr => by cases hr⟩, fun r hr => by cases hr⟩, rfl⟩
  rcases hof with ⟨_, rfl, _⟩ | ⟨_, _, rfl, _⟩ | ⟨_, hp, c, hc, hL⟩
  · exact ⟨nilc, (fun r hr => by cases hr), by simp⟩
  · exact ⟨nilc, (fun r hr => by cases hr), by simp⟩
  · rcases hL with ⟨_, rfl, _⟩ | ⟨_, rfl, _⟩
    · exact ⟨nilc, (fun r hr => by cases hr), by simp⟩
    · refine ⟨hc.canonical, ?_, ?_⟩
      · exact canon_proper hc (allP_iff.1 hp)
      · have := form_few hc
        have h1 : 2 * m.length * m.length ≤ 2 * 4 * 4 := Nat.mul_le_mul (by omega) (by omega)
        omega
end Go.Proofs.Ytdpnkbbphfcngaa
