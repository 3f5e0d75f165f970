/- Growing and shrinking as sets. -/
import Derived.Test.YtdpnkbbphfcngabHB
import Derived.Test.YtdpnkbbphfcngabGFew
namespace Go.Proofs.Ytdpnkbbphfcngab
open Go.RowKit Go.Shelf

theorem canon_box {K : Int → Int → Bool} {l : List Rc} (h : CanonFor K l) {a b c d : Int} (hK : ∀ x y, K x y = true → a ≤ x ∧ x < b ∧ c ≤ y ∧ y < d) : ∀ q ∈ l, a ≤ q.l ∧ q.l < q.r ∧ q.r ≤ b ∧ c ≤ q.b ∧ q.b < q.h ∧ q.h ≤ d := by
  intro q hq
  obtain ⟨h1, h2⟩ := canonical_up h.canonical q hq
  have key : ∀ x y, q.l ≤ x → x < q.r → q.b ≤ y → y < q.h → a ≤ x ∧ x < b ∧ c ≤ y ∧ y < d := fun x y a' b' c' d' => by
    have k1 : insideB l x y = true := by
      rw [insideB, List.any_eq_true]
      exact ⟨q, hq, by simp [insR, a', b', c', d']⟩
    rw [h.inside] at k1
    exact hK x y k1
  have e1 := key q.l q.b (Int.le_refl _) h1 (Int.le_refl _) h2
  have e2 := key (q.r - 1) (q.h - 1) (by omega) (by omega) (by omega) (by omega)
  omega

theorem inside_iffH {l : List Rc} {x y : Int} : insideB l x y = true ↔ ∃ r ∈ l, r.l ≤ x ∧ x < r.r ∧ r.b ≤ y ∧ y < r.h := by
  rw [insideB, List.any_eq_true]
  constructor
  · rintro ⟨r, hr, h⟩
    simp only [insR, Bool.and_eq_true, decide_eq_true_eq] at h
    exact ⟨r, hr, h.1.1.1, h.1.1.2, h.1.2, h.2⟩
  · rintro ⟨r, hr, h1, h2, h3, h4⟩
    exact ⟨r, hr, by simp [insR, h1, h2, h3, h4]⟩

/-- Some square at most k columns and rows away. -/
def Near (k : Int) (f : Int → Int → Bool) (x y : Int) : Prop := ∃ u v, x - k ≤ u ∧ u ≤ x + k ∧ y - k ≤ v ∧ v ≤ y + k ∧ f u v = true
def Filled (l : List Rc) : Prop := ∀ r ∈ l, r.l < r.r ∧ r.b < r.h

theorem near_grown {l : List Rc} {k : Int} (hk : 0 ≤ k) (hl : Filled l) (x y : Int) : insideB (l.map (growR k)) x y = true ↔ Near k (insideB l) x y := by
  rw [inside_iffH]
  constructor
  · rintro ⟨q, hq, h1, h2, h3, h4⟩
    obtain ⟨r, hr, rfl⟩ := List.mem_map.1 hq
    obtain ⟨f1, f2⟩ := hl r hr
    simp only [growR] at h1 h2 h3 h4
    refine ⟨max r.l (x - k), max r.b (y - k), by omega, by omega, by omega, by omega, ?_⟩
    exact inside_iffH.2 ⟨r, hr, by omega, by omega, by omega, by omega⟩
  · rintro ⟨u, v, h1, h2, h3, h4, h⟩
    obtain ⟨r, hr, g1, g2, g3, g4⟩ := inside_iffH.1 h
    exact ⟨growR k r, List.mem_map.2 ⟨r, hr, rfl⟩, by simp only [growR]; omega, by simp only [growR]; omega, by simp only [growR]; omega, by simp only [growR]; omega⟩

theorem valid_filled {l : List Rc} (h : ValidP l) : Filled l := fun r hr => by
  have := h.2.1 r hr
  unfold properR at this
  omega
theorem valid_grid {l : List Rc} (h : ValidP l) {x y : Int} (hi : insideB l x y = true) : 0 ≤ x ∧ x < 16384 ∧ 0 ≤ y ∧ y < 16384 := by
  obtain ⟨r, hr, g1, g2, g3, g4⟩ := inside_iffH.1 hi
  have := h.2.1 r hr
  unfold properR at this
  omega

/-- What Grow's rectangles have. -/
theorem grow_set {l : List Rc} {k : Int} (hk : 0 ≤ k) (hl : ValidP l) (x y : Int) : insideB (l.map fun r => clipR (growR k r)) x y = true ↔ (0 ≤ x ∧ x < 16384 ∧ 0 ≤ y ∧ y < 16384) ∧ Near k (insideB l) x y := by
  rw [← near_grown hk (valid_filled hl), inside_iffH, inside_iffH]
  constructor
  · rintro ⟨q, hq, h1, h2, h3, h4⟩
    obtain ⟨r, hr, rfl⟩ := List.mem_map.1 hq
    simp only [clipR] at h1 h2 h3 h4
    exact ⟨by omega, growR k r, List.mem_map.2 ⟨r, hr, rfl⟩, by omega, by omega, by omega, by omega⟩
  · rintro ⟨hg, q, hq, h1, h2, h3, h4⟩
    obtain ⟨r, hr, rfl⟩ := List.mem_map.1 hq
    exact ⟨clipR (growR k r), List.mem_map.2 ⟨r, hr, rfl⟩, by simp only [clipR]; omega, by simp only [clipR]; omega, by simp only [clipR]; omega, by simp only [clipR]; omega⟩

def bigR : Rc := ⟨-1, -1, 16385, 16385⟩
theorem inside_big (x y : Int) : insideB [bigR] x y = true ↔ -1 ≤ x ∧ x < 16385 ∧ -1 ≤ y ∧ y < 16385 := by
  rw [inside_iffH]
  simp [bigR]

/-- What is around. -/
def AroundR (l m : List Rc) : Prop := CanonFor (fun x y => insideB [bigR] x y && !insideB l x y) m
theorem AroundR.box {l m : List Rc} (h : AroundR l m) : ∀ q ∈ m, -1 ≤ q.l ∧ q.l < q.r ∧ q.r ≤ 16385 ∧ -1 ≤ q.b ∧ q.b < q.h ∧ q.h ≤ 16385 :=
  canon_box h fun x y hxy => by
    rw [Bool.and_eq_true, inside_big] at hxy
    omega
theorem AroundR.sm {l m : List Rc} (h : AroundR l m) : ∀ q ∈ m, Sm q := fun q hq => by
  have := h.box q hq
  unfold Sm
  omega

theorem shrink_set {l m : List Rc} {k : Int} (hk : 0 ≤ k) (hl : ValidP l) (hm : AroundR l m) (x y : Int) : (insideB l x y && !insideB (m.map (growR k)) x y) = true ↔ ∀ u v, x - k ≤ u → u ≤ x + k → y - k ≤ v → v ≤ y + k → insideB l u v = true := by
  have hf : Filled m := fun r hr => by have := hm.box r hr; omega
  have hmi : ∀ x y, insideB m x y = (insideB [bigR] x y && !insideB l x y) := fun x y => hm.inside x y
  rw [Bool.and_eq_true, Bool.not_eq_true']
  constructor
  · rintro ⟨h1, h2⟩ u v a b c d
    obtain ⟨g1, g2, g3, g4⟩ := valid_grid hl h1
    by_cases hu : insideB l u v = true
    · exact hu
    · exfalso
      have : insideB (m.map (growR k)) x y = true := by
        rw [near_grown hk hf]
        refine ⟨max (-1) (min u 16384), max (-1) (min v 16384), by omega, by omega, by omega, by omega, ?_⟩
        rw [hmi, Bool.and_eq_true, inside_big, Bool.not_eq_true']
        refine ⟨by omega, ?_⟩
        rw [Bool.eq_false_iff]
        intro hi
        have hgr := valid_grid hl hi
        have e1 : max (-1) (min u 16384) = u := by omega
        have e2 : max (-1) (min v 16384) = v := by omega
        rw [e1, e2] at hi
        exact hu hi
      rw [this] at h2
      cases h2
  · intro h
    refine ⟨h x y (by omega) (by omega) (by omega) (by omega), ?_⟩
    rw [Bool.eq_false_iff]
    intro hn
    obtain ⟨u, v, a, b, c, d, hi⟩ := (near_grown hk hf x y).1 hn
    rw [hmi, h u v a b c d] at hi
    simp at hi

theorem ofR_canon {K : Int → Int → Bool} {c out : List Rc} {e : Int} (hc : CanonFor K c) (hp : ∀ q ∈ c, properR q) (h : OfR c out e) : LimR c out e := by
  rcases h with ⟨a, rfl, rfl⟩ | ⟨a, b, rfl, rfl⟩ | ⟨a, b, c', hc', hL⟩
  · exact .inl ⟨a, rfl, rfl⟩
  · rw [allP_iff.2 hp] at b; cases b
  · obtain rfl := canon_unique (canonFor_congr hc fun x y => (hc.inside x y).symm) hc'
    exact hL

/-- What Shrink returns. -/
def ShrinkR (l : List Rc) (k : Int) (out : List Rc) (e : Int) : Prop :=
  (CheckR l k e ∧ e ≠ 0 ∧ out = []) ∨ (ValidP l ∧ 0 ≤ k ∧ k ≤ 64 ∧ ∃ m c, AroundR l m ∧ CanonFor (fun x y => insideB l x y && !insideB (m.map (growR k)) x y) c ∧ LimR c out e)
end Go.Proofs.Ytdpnkbbphfcngab
