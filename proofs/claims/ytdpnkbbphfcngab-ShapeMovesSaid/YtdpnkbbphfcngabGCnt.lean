/- How many squares a set has; the areas of canonical forms; forms of sets that lie in a small square. -/
import Derived.Test.YtdpnkbbphfcngabGFew
namespace Go.Proofs.Ytdpnkbbphfcngab

/-- A sum over 0 .. n-1. -/
def sumN (f : Int → Int) : Nat → Int
  | 0 => 0
  | n + 1 => sumN f n + f n

theorem sumN_congr {f g : Int → Int} : ∀ {n : Nat}, (∀ x, 0 ≤ x → x < (n : Int) → f x = g x) → sumN f n = sumN g n
  | 0, _ => rfl
  | n + 1, h => by
    rw [sumN, sumN, h n (by omega) (by omega), sumN_congr fun x a b => h x a (by omega)]
theorem sumN_add (f g : Int → Int) : ∀ n : Nat, sumN (fun x => f x + g x) n = sumN f n + sumN g n
  | 0 => rfl
  | n + 1 => by
    rw [sumN, sumN, sumN, sumN_add f g n]
    omega
theorem sumN_zero : ∀ n : Nat, sumN (fun _ => 0) n = 0
  | 0 => rfl
  | n + 1 => by rw [sumN, sumN_zero n]; rfl
theorem sumN_nonneg {f : Int → Int} : ∀ {n : Nat}, (∀ x, 0 ≤ x → x < (n : Int) → 0 ≤ f x) → 0 ≤ sumN f n
  | 0, _ => Int.le_refl _
  | n + 1, h => by
    have h1 := h n (by omega) (by omega)
    have h2 := sumN_nonneg (n := n) fun x a b => h x a (by omega)
    rw [sumN]
    omega
theorem sumN_mul (c : Int) (f : Int → Int) : ∀ n : Nat, sumN (fun x => c * f x) n = c * sumN f n
  | 0 => by simp [sumN]
  | n + 1 => by rw [sumN, sumN, sumN_mul c f n, Int.mul_add]
theorem sumN_pos {f : Int → Int} : ∀ {n : Nat}, (∀ x, 0 ≤ x → x < (n : Int) → 0 ≤ f x) → ∀ x, 0 ≤ x → x < (n : Int) → f x ≤ sumN f n
  | 0, _, x, a, b => by omega
  | n + 1, h, x, a, b => by
    have h1 := h n (by omega) (by omega)
    rw [sumN]
    rcases Classical.em (x = n) with rfl | e
    · have := sumN_nonneg (n := n) fun y c d => h y c (by omega)
      omega
    · have := sumN_pos (n := n) (fun y c d => h y c (by omega)) x a (by omega)
      omega

def ind (b : Bool) : Int := if b then 1 else 0
theorem ind_and (a b : Bool) : ind (a && b) = ind a * ind b := by cases a <;> cases b <;> rfl
theorem ind_nonneg (b : Bool) : 0 ≤ ind b := by cases b <;> decide

/-- An interval has as many numbers as it is long. -/
theorem sumN_span (a b : Int) (h0 : 0 ≤ a) : ∀ n : Nat, b ≤ n → sumN (fun x => ind (decide (a ≤ x) && decide (x < b))) n = max (b - a) 0
  | 0, h => by
    rw [sumN]
    omega
  | n + 1, h => by
    rw [sumN]
    rcases Classical.em (b ≤ n) with hb | hb
    · rw [sumN_span a b h0 n hb]
      have : ind (decide (a ≤ (n : Int)) && decide ((n : Int) < b)) = 0 := by
        rw [show decide ((n : Int) < b) = false from decide_eq_false (by omega), Bool.and_false]
        rfl
      omega
    · have e : b = n + 1 := by omega
      subst e
      have h1 := sumN_span a n h0 n (Int.le_refl _)
      have h2 : sumN (fun x => ind (decide (a ≤ x) && decide (x < (n : Int) + 1))) n = sumN (fun x => ind (decide (a ≤ x) && decide (x < (n : Int)))) n := sumN_congr fun x _ hx => by
        rw [show decide (x < (n : Int) + 1) = true from decide_eq_true (by omega), show decide (x < (n : Int)) = true from decide_eq_true hx]
      rw [h2, h1]
      rcases Classical.em (a ≤ (n : Int)) with ha | ha
      · have : ind (decide (a ≤ (n : Int)) && decide ((n : Int) < (n : Int) + 1)) = 1 := by
          rw [show decide (a ≤ (n : Int)) = true from decide_eq_true ha, show decide ((n : Int) < (n : Int) + 1) = true from decide_eq_true (by omega)]
          rfl
        omega
      · have : ind (decide (a ≤ (n : Int)) && decide ((n : Int) < (n : Int) + 1)) = 0 := by
          rw [show decide (a ≤ (n : Int)) = false from decide_eq_false ha]
          rfl
        omega

/-- The number of squares below N. -/
def cnt (N : Nat) (K : Int → Int → Bool) : Int := sumN (fun y => sumN (fun x => ind (K x y)) N) N

theorem cnt_congr {N : Nat} {K L : Int → Int → Bool} (h : ∀ x y, 0 ≤ x → x < (N : Int) → 0 ≤ y → y < (N : Int) → K x y = L x y) : cnt N K = cnt N L :=
  sumN_congr fun y a b => sumN_congr fun x c d => by rw [h x y c d a b]
theorem cnt_nonneg (N : Nat) (K : Int → Int → Bool) : 0 ≤ cnt N K := sumN_nonneg fun _ _ _ => sumN_nonneg fun _ _ _ => ind_nonneg _
theorem cnt_none (N : Nat) : cnt N (fun _ _ => false) = 0 := by
  have : cnt N (fun _ _ => false) = sumN (fun _ => sumN (fun _ => 0) N) N := rfl
  rw [this, sumN_zero, sumN_zero]
theorem cnt_split {N : Nat} {K L M : Int → Int → Bool} (h : ∀ x y, 0 ≤ x → x < (N : Int) → 0 ≤ y → y < (N : Int) → ind (K x y) = ind (L x y) + ind (M x y)) : cnt N K = cnt N L + cnt N M := by
  unfold cnt
  rw [← sumN_add]
  refine sumN_congr fun y a b => ?_
  rw [← sumN_add]
  exact sumN_congr fun x c d => h x y c d a b
theorem cnt_one {N : Nat} {K : Int → Int → Bool} {x y : Int} (h : K x y = true) (h1 : 0 ≤ x) (h2 : x < (N : Int)) (h3 : 0 ≤ y) (h4 : y < (N : Int)) : 1 ≤ cnt N K := by
  have a := sumN_pos (f := fun y => sumN (fun x => ind (K x y)) N) (fun _ _ _ => sumN_nonneg fun _ _ _ => ind_nonneg _) y h3 h4
  have b := sumN_pos (f := fun x => ind (K x y)) (fun _ _ _ => ind_nonneg _) x h1 h2
  have c : ind (K x y) = 1 := by rw [h]; rfl
  unfold cnt
  omega
theorem cnt_zero {N : Nat} {K : Int → Int → Bool} : cnt N K = 0 ↔ ∀ x y, 0 ≤ x → x < (N : Int) → 0 ≤ y → y < (N : Int) → K x y = false := by
  constructor
  · intro h x y a b c d
    cases e : K x y
    · rfl
    · have := cnt_one e a b c d
      omega
  · intro h
    rw [cnt_congr (L := fun _ _ => false) h, cnt_none]
theorem cnt_both {N : Nat} (K L : Int → Int → Bool) : cnt N K + cnt N L = cnt N (fun x y => K x y || L x y) + cnt N (fun x y => K x y && L x y) := by
  have h1 : cnt N K = cnt N (fun x y => K x y && L x y) + cnt N (fun x y => K x y && !L x y) := cnt_split fun x y _ _ _ _ => by cases K x y <;> cases L x y <;> rfl
  have h2 : cnt N (fun x y => K x y || L x y) = cnt N L + cnt N (fun x y => K x y && !L x y) := cnt_split fun x y _ _ _ _ => by cases K x y <;> cases L x y <;> rfl
  omega
theorem cnt_less {N : Nat} (K L : Int → Int → Bool) : cnt N K = cnt N (fun x y => K x y && L x y) + cnt N (fun x y => K x y && !L x y) := cnt_split fun x y _ _ _ _ => by cases K x y <;> cases L x y <;> rfl

/-- A box of squares. -/
theorem cnt_box {N : Nat} {l b r h : Int} (h0 : 0 ≤ l) (h1 : 0 ≤ b) (h2 : r ≤ N) (h3 : h ≤ N) : cnt N (fun x y => insR ⟨l, b, r, h⟩ x y) = max (r - l) 0 * max (h - b) 0 := by
  have e : cnt N (fun x y => insR ⟨l, b, r, h⟩ x y) = sumN (fun y => max (r - l) 0 * ind (decide (b ≤ y) && decide (y < h))) N := by
    unfold cnt
    refine sumN_congr fun y _ _ => ?_
    have : ∀ x, ind (insR ⟨l, b, r, h⟩ x y) = ind (decide (b ≤ y) && decide (y < h)) * ind (decide (l ≤ x) && decide (x < r)) := fun x => by
      rw [← ind_and]
      congr 1
      simp only [insR]
      cases decide (l ≤ x) <;> cases decide (x < r) <;> cases decide (b ≤ y) <;> cases decide (y < h) <;> rfl
    simp only [this]
    rw [sumN_mul, sumN_span l r h0 N h2, Int.mul_comm]
  rw [e, sumN_mul, sumN_span b h h1 N h3]

/-- Two boxes have a box in common. -/
def meetR (p q : Rc) : Rc := ⟨max p.l q.l, max p.b q.b, min p.r q.r, min p.h q.h⟩
theorem meet_in (p q : Rc) (x y : Int) : (insR p x y && insR q x y) = insR (meetR p q) x y := by
  rw [Bool.eq_iff_iff]
  simp only [insR, meetR, Bool.and_eq_true, decide_eq_true_eq, Int.max_le, Int.lt_min]
  constructor
  · rintro ⟨⟨⟨⟨a, b⟩, c⟩, d⟩, ⟨⟨⟨e, f⟩, g⟩, h⟩⟩
    exact ⟨⟨⟨⟨a, e⟩, b, f⟩, c, g⟩, d, h⟩
  · rintro ⟨⟨⟨⟨a, e⟩, b, f⟩, c, g⟩, d, h⟩
    exact ⟨⟨⟨⟨a, b⟩, c⟩, d⟩, ⟨⟨⟨e, f⟩, g⟩, h⟩⟩
def meetA (p q : Rc) : Int := max (min p.r q.r - max p.l q.l) 0 * max (min p.h q.h - max p.b q.b) 0

theorem cnt_proper {r : Rc} (h : properR r) : cnt 16384 (fun x y => insR r x y) = (r.r - r.l) * (r.h - r.b) := by
  obtain ⟨a, b, c, d, e, f⟩ := h
  have := cnt_box (N := 16384) (l := r.l) (b := r.b) (r := r.r) (h := r.h) a d c f
  rw [show max (r.r - r.l) 0 = r.r - r.l by omega, show max (r.h - r.b) 0 = r.h - r.b by omega] at this
  exact this
theorem cnt_meet {p q : Rc} (h : properR p) : cnt 16384 (fun x y => insR p x y && insR q x y) = meetA p q := by
  obtain ⟨a, b, c, d, e, f⟩ := h
  have := cnt_box (N := 16384) (l := max p.l q.l) (b := max p.b q.b) (r := min p.r q.r) (h := min p.h q.h) (by omega) (by omega) (by omega) (by omega)
  rw [cnt_congr (L := fun x y => insR (meetR p q) x y) (fun x y _ _ _ _ => meet_in p q x y)]
  exact this

/-- No two rectangles have a square in common. -/
def apart (l : List Rc) : Prop := l.Pairwise fun p q => ∀ x y, ¬ (insR p x y = true ∧ insR q x y = true)

theorem apart_append {l m : List Rc} (h1 : apart l) (h2 : apart m) (h : ∀ p ∈ l, ∀ q ∈ m, ∀ x y, ¬ (insR p x y = true ∧ insR q x y = true)) : apart (l ++ m) :=
  List.pairwise_append.2 ⟨h1, h2, h⟩

theorem insR_iff {r : Rc} {x y : Int} : insR r x y = true ↔ r.l ≤ x ∧ x < r.r ∧ r.b ≤ y ∧ y < r.h := by
  simp only [insR, Bool.and_eq_true, decide_eq_true_eq]
  constructor
  · rintro ⟨⟨⟨a, b⟩, c⟩, d⟩; exact ⟨a, b, c, d⟩
  · rintro ⟨a, b, c, d⟩; exact ⟨⟨⟨a, b⟩, c⟩, d⟩

theorem band_apart {lo hi : Int} : ∀ {c : List Sp}, sok c → apart (c.map (mkR lo hi))
  | [], _ => List.Pairwise.nil
  | s :: c, h => by
    rw [List.map_cons]
    refine List.pairwise_cons.2 ⟨fun q hq x y hxy => ?_, band_apart h.2.2⟩
    obtain ⟨t, ht, rfl⟩ := List.mem_map.1 hq
    have h1 : s.2 ≤ t.1 := rch.tail_low (r := ⟨s.1, s.2, true⟩) (rs := runs c) h ⟨t.1, t.2, true⟩ (List.mem_map.2 ⟨t, ht, rfl⟩)
    have h2 := insR_iff.1 hxy.1
    have h3 := insR_iff.1 hxy.2
    simp only [mkR] at h2 h3
    omega
theorem flat_apart : ∀ {bs : List Band}, rch bs → (∀ b ∈ bs, sok b.c) → apart (flat bs)
  | [], _, _ => List.Pairwise.nil
  | b :: bs, h, hs => by
    rw [flat_cons]
    refine apart_append (band_apart (hs b List.mem_cons_self)) (flat_apart h.2.2 fun c hc => hs c (List.mem_cons_of_mem _ hc)) fun p hp q hq x y hxy => ?_
    obtain ⟨s, _, rfl⟩ := List.mem_map.1 hp
    obtain ⟨c, hc, hq⟩ := List.mem_flatMap.1 hq
    obtain ⟨t, _, rfl⟩ := List.mem_map.1 hq
    have h1 := h.tail_low c hc
    have h2 := insR_iff.1 hxy.1
    have h3 := insR_iff.1 hxy.2
    simp only [mkR] at h2 h3
    omega
theorem Canonical.apart {l : List Rc} (h : Canonical l) : apart l := by
  obtain ⟨bs, ⟨hr, hs⟩, rfl⟩ := h
  exact flat_apart hr.1 hs

theorem ind_apart : ∀ {l : List Rc}, apart l → ∀ x y, ind (insideB l x y) = (l.map fun r => ind (insR r x y)).sum
  | [], _, _, _ => rfl
  | r :: l, h, x, y => by
    obtain ⟨h1, h2⟩ := List.pairwise_cons.1 h
    have ih := ind_apart h2 x y
    rw [List.map_cons, List.sum_cons, ← ih]
    show ind (insR r x y || insideB l x y) = _
    cases e : insR r x y
    · rw [Bool.false_or]
      show _ = 0 + _
      omega
    · have : insideB l x y = false := inside_false fun q hq => by
        cases e2 : insR q x y
        · rfl
        · exact absurd ⟨e, e2⟩ (h1 q hq x y)
      rw [this]
      rfl

theorem cnt_sum (N : Nat) (G : Rc → Int → Int → Bool) {l : List Rc} {K : Int → Int → Bool} (h : ∀ x y, ind (K x y) = (l.map fun r => ind (G r x y)).sum) : cnt N K = (l.map fun r => cnt N (G r)).sum := by
  have key : ∀ (l : List Rc) (f : Int → Int → Int), (∀ x y, f x y = (l.map fun r => ind (G r x y)).sum) → sumN (fun y => sumN (fun x => f x y) N) N = (l.map fun r => cnt N (G r)).sum := by
    intro l
    induction l with
    | nil =>
      intro f hf
      have e : ∀ x y, f x y = 0 := fun x y => hf x y
      simp only [e, List.map_nil, List.sum_nil]
      rw [sumN_zero, sumN_zero]
    | cons r l ih =>
      intro f hf
      rw [List.map_cons, List.sum_cons, ← ih (fun x y => (l.map fun r => ind (G r x y)).sum) fun _ _ => rfl]
      unfold cnt
      rw [← sumN_add]
      refine sumN_congr fun y _ _ => ?_
      rw [← sumN_add]
      refine sumN_congr fun x _ _ => ?_
      rw [hf, List.map_cons, List.sum_cons]
  exact key l (fun x y => ind (K x y)) h

theorem map_sum_congr {f g : Rc → Int} : ∀ {l : List Rc}, (∀ r ∈ l, f r = g r) → (l.map f).sum = (l.map g).sum
  | [], _ => rfl
  | r :: l, h => by
    rw [List.map_cons, List.map_cons, List.sum_cons, List.sum_cons, h r List.mem_cons_self, map_sum_congr fun q hq => h q (List.mem_cons_of_mem _ hq)]

/-- The areas of disjoint rectangles add up to the number of squares. -/
theorem sum_area {l : List Rc} (h : apart l) (hp : ∀ r ∈ l, properR r) : (l.map fun r => (r.r - r.l) * (r.h - r.b)).sum = cnt 16384 (insideB l) := by
  rw [cnt_sum 16384 insR (l := l) (ind_apart h)]
  exact map_sum_congr fun r hr => (cnt_proper (hp r hr)).symm

/-- The squares that two lists have in common. -/
theorem sum_meet {a b : List Rc} (ha : apart a) (hb : apart b) (hp : ∀ r ∈ a, properR r) : (a.map fun p => (b.map fun q => meetA p q).sum).sum = cnt 16384 (fun x y => insideB a x y && insideB b x y) := by
  have e1 : cnt 16384 (fun x y => insideB a x y && insideB b x y) = (a.map fun p => cnt 16384 (fun x y => insR p x y && insideB b x y)).sum := by
    refine cnt_sum 16384 (fun p x y => insR p x y && insideB b x y) fun x y => ?_
    rw [ind_and, ind_apart ha]
    generalize insideB b x y = t
    clear ha hp
    induction a with
    | nil => simp
    | cons r l ih => rw [List.map_cons, List.sum_cons, List.map_cons, List.sum_cons, Int.add_mul, ih, ind_and]
  rw [e1]
  refine map_sum_congr fun p hpa => ?_
  have e2 : cnt 16384 (fun x y => insR p x y && insideB b x y) = (b.map fun q => cnt 16384 (fun x y => insR p x y && insR q x y)).sum := by
    refine cnt_sum 16384 (fun q x y => insR p x y && insR q x y) fun x y => ?_
    rw [ind_and, ind_apart hb]
    generalize insR p x y = t
    clear hb e1
    induction b with
    | nil => simp
    | cons r l ih => rw [List.map_cons, List.sum_cons, List.map_cons, List.sum_cons, Int.mul_add, ih, ind_and]
  rw [e2]
  exact map_sum_congr fun q _ => (cnt_meet (hp p hpa)).symm

/-- The form of a set that lies in a square of side n has at most n n rectangles. -/
theorem form_side {K : Int → Int → Bool} {l : List Rc} (h : CanonFor K l) {n : Nat} (hn : ∀ x y, K x y = true → 0 ≤ x ∧ x < (n : Int) ∧ 0 ≤ y ∧ y < (n : Int)) : l.length ≤ n * n := by
  obtain ⟨bs, ⟨hr, hs⟩, hk, rfl⟩ := h
  have inn : ∀ z : Int, 0 ≤ z → z < (n : Int) → z ∈ (List.range n).map Int.ofNat := fun z h1 h2 => List.mem_map.2 ⟨z.toNat, List.mem_range.2 (by omega), by show ((z.toNat : Nat) : Int) = z; omega⟩
  have start : ∀ b ∈ bs, ∀ s ∈ b.c, K s.1 b.lo = true := fun b hb s hsm => by
    rw [← hk, rval_at (d := []) hr.1 b hb]
    exact rval_at (d := false) (hs b hb) ⟨s.1, s.2, true⟩ (List.mem_map.2 ⟨s, hsm, rfl⟩)
  have hbands : bs.length ≤ n := by
    have := ups_le (bs.map (·.lo)) ((List.range n).map Int.ofNat) hr.1.ups fun x hx => by
      obtain ⟨b, hb, rfl⟩ := List.mem_map.1 hx
      have hne := hr.2 b hb
      cases hc : b.c with
      | nil => exact absurd hc hne
      | cons s c =>
        have := hn _ _ (start b hb s (by rw [hc]; exact List.mem_cons_self))
        exact inn _ this.2.2.1 this.2.2.2
    rw [List.length_map, List.length_map, List.length_range] at this
    exact this
  have hspans : ∀ b ∈ bs, b.c.length ≤ n := fun b hb => by
    have := ups_le (b.c.map (·.1)) ((List.range n).map Int.ofNat) (by
      have := (hs b hb).ups
      rwa [runs, List.map_map] at this) fun x hx => by
      obtain ⟨s, hsm, rfl⟩ := List.mem_map.1 hx
      have := hn _ _ (start b hb s hsm)
      exact inn _ this.1 this.2.1
    rw [List.length_map, List.length_map, List.length_range] at this
    exact this
  exact Nat.le_trans (flat_few hspans) (Nat.mul_le_mul_right _ hbands)
end Go.Proofs.Ytdpnkbbphfcngab
