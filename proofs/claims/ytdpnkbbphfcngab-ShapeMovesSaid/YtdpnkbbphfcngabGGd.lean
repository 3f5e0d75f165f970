/- Regions that lie in a small square. -/
import Derived.Test.YtdpnkbbphfcngabGU
import Derived.Test.YtdpnkbbphfcngabGCnt
namespace Go.Proofs.Ytdpnkbbphfcngab
open Go.RowKit Go.Shelf

/-- A valid region in a square of side n. -/
structure Good (n : Nat) (l : List Rc) : Prop where
  can : Canonical l
  ok : ∀ r ∈ l, properR r
  len : l.length ≤ 120
  side : ∀ x y, insideB l x y = true → 0 ≤ x ∧ x < (n : Int) ∧ 0 ≤ y ∧ y < (n : Int)

theorem Good.valid {n : Nat} {l : List Rc} (h : Good n l) : ValidP l := ⟨h.len, h.ok, h.can⟩
theorem inside_iff {l : List Rc} {x y : Int} : insideB l x y = true ↔ ∃ r ∈ l, insR r x y = true := by rw [insideB, List.any_eq_true]
theorem canonical_nil : Canonical ([] : List Rc) := ⟨[], ⟨⟨trivial, fun r hr => by cases hr⟩, fun r hr => by cases hr⟩, rfl⟩
theorem Good.nil (n : Nat) : Good n [] := ⟨canonical_nil, (fun r hr => by cases hr), by simp, fun x y h => by cases h⟩

/-- A form of squares that lie in a square is good. -/
theorem form_good {K : Int → Int → Bool} {l : List Rc} (h : CanonFor K l) {n : Nat} (hK : ∀ x y, K x y = true → 0 ≤ x ∧ x < (n : Int) ∧ 0 ≤ y ∧ y < (n : Int)) (h1 : n * n ≤ 120) (h2 : n ≤ 16384) : Good n l := by
  refine ⟨h.canonical, fun q hq => ?_, Nat.le_trans (form_side h hK) h1, fun x y hxy => hK x y (by rw [← h.inside]; exact hxy)⟩
  obtain ⟨a, b⟩ := canonical_up h.canonical q hq
  have c1 := hK q.l q.b (by rw [← h.inside]; exact inside_iff.2 ⟨q, hq, insR_iff.2 ⟨Int.le_refl _, a, Int.le_refl _, b⟩⟩)
  have c2 := hK (q.r - 1) (q.h - 1) (by rw [← h.inside]; exact inside_iff.2 ⟨q, hq, insR_iff.2 ⟨by omega, by omega, by omega, by omega⟩⟩)
  exact ⟨c1.1, a, by omega, c1.2.2.1, b, by omega⟩

theorem drawn_good {w w' : World} {tb : Nat} {n : Nat} {most : Nat} {v : Value} {l : List Rc} (h : Drawn w w' tb n most v l) (h1 : n * n ≤ 120) : Good n l := by
  obtain ⟨m, e, hlen, hin, hof⟩ := h.of
  have hn : n ≤ 120 := Nat.le_trans (Nat.le_mul_self n) h1
  rcases hof with ⟨_, rfl, _⟩ | ⟨_, _, rfl, _⟩ | ⟨_, hp, c, hc, hL⟩
  · exact Good.nil n
  · exact Good.nil n
  · rcases hL with ⟨_, rfl, _⟩ | ⟨_, rfl, _⟩
    · exact Good.nil n
    · refine form_good hc (fun x y hxy => ?_) h1 (by omega)
      obtain ⟨r, hr, hi⟩ := inside_iff.1 hxy
      have := insR_iff.1 hi
      obtain ⟨a, b, c, d, e, f⟩ := hin r hr
      omega

theorem comb_good {k : Bool → Bool → Bool} (hk : k false false = false) {n : Nat} (h1 : n * n ≤ 120) {a b out : List Rc} {e : Int} (ha : Good n a) (hb : Good n b) (h : CombR k a b out e) :
    e = 0 ∧ Good n out ∧ ∀ x y, insideB out x y = k (insideB a x y) (insideB b x y) := by
  have hn : n ≤ 120 := Nat.le_trans (Nat.le_mul_self n) h1
  rcases h with ⟨hno, _, _⟩ | ⟨_, _, c, hc, hL⟩
  · exact absurd ⟨ha.valid, hb.valid⟩ hno
  · have hg : Good n c := form_good hc (fun x y hxy => by
      cases e1 : insideB a x y
      · cases e2 : insideB b x y
        · rw [e1, e2, hk] at hxy; cases hxy
        · exact hb.side x y e2
      · exact ha.side x y e1) h1 (by omega)
    rcases hL with ⟨h2, _, _⟩ | ⟨_, rfl, rfl⟩
    · have := hg.len; omega
    · exact ⟨rfl, hg, fun x y => hc.inside x y⟩

theorem Good.ext {n m : Nat} {a b : List Rc} (ha : Good n a) (hb : Good m b) (h : ∀ x y, insideB a x y = insideB b x y) : a = b := canonical_ext ha.can hb.can h
end Go.Proofs.Ytdpnkbbphfcngab
