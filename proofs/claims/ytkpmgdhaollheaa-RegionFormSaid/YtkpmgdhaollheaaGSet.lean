/- Rectangles and their canonical form: it is unique; what the code and the reference compute is it. -/
import Derived.Test.YtkpmgdhaollheaaGRun
namespace Go.Proofs.Ytkpmgdhaollheaa

structure Rc where
  l : Int
  b : Int
  r : Int
  h : Int

instance : Inhabited Rc := ⟨⟨0, 0, 0, 0⟩⟩
theorem Rc.ext' {p q : Rc} (h1 : p.l = q.l) (h2 : p.b = q.b) (h3 : p.r = q.r) (h4 : p.h = q.h) : p = q := by
  cases p; cases q; simp_all

abbrev Sp := Int × Int
abbrev Band := Run (List Sp)

def runs (s : List Sp) : List (Run Bool) := s.map fun p => ⟨p.1, p.2, true⟩
def sok (s : List Sp) : Prop := rch (runs s)
def sval (s : List Sp) (x : Int) : Bool := rval false (runs s) x

theorem runs_inj : ∀ {s t : List Sp}, runs s = runs t → s = t
  | [], [], _ => rfl
  | [], _ :: _, h => by simp [runs] at h
  | _ :: _, [], h => by simp [runs] at h
  | p :: s, q :: t, h => by
    simp only [runs, List.map_cons, List.cons.injEq, Run.mk.injEq] at h
    rw [runs_inj (s := s) (t := t) h.2, Prod.ext h.1.1 h.1.2.1]

theorem runs_true {s : List Sp} : ∀ r ∈ runs s, r.c ≠ false := by
  intro r hr
  simp only [runs, List.mem_map] at hr
  obtain ⟨p, _, rfl⟩ := hr
  simp

theorem spans_unique {s t : List Sp} (hs : sok s) (ht : sok t) (h : ∀ x, sval s x = sval t x) : s = t :=
  runs_inj (runs_unique (d := false) ⟨hs, runs_true⟩ ⟨ht, runs_true⟩ h)

theorem sval_any (x : Int) : ∀ s : List Sp, sval s x = s.any fun p => decide (p.1 ≤ x) && decide (x < p.2)
  | [] => rfl
  | p :: s => by
    show (if p.1 ≤ x ∧ x < p.2 then true else sval s x) = _
    rw [sval_any x s, List.any_cons]
    by_cases h1 : p.1 ≤ x <;> by_cases h2 : x < p.2 <;> simp [h1, h2]

def mkR (lo hi : Int) (s : Sp) : Rc := ⟨s.1, lo, s.2, hi⟩
def flat (bs : List Band) : List Rc := bs.flatMap fun b => b.c.map (mkR b.lo b.hi)
def insR (r : Rc) (x y : Int) : Bool := decide (r.l ≤ x) && decide (x < r.r) && decide (r.b ≤ y) && decide (y < r.h)
def insideB (l : List Rc) (x y : Int) : Bool := l.any fun r => insR r x y

def Canon (bs : List Band) : Prop := rok [] bs ∧ ∀ b ∈ bs, sok b.c
def CanonFor (K : Int → Int → Bool) (l : List Rc) : Prop := ∃ bs, Canon bs ∧ (∀ x y, sval (rval [] bs y) x = K x y) ∧ l = flat bs
def Canonical (l : List Rc) : Prop := ∃ bs, Canon bs ∧ l = flat bs

theorem rval_mem {γ : Type} {d : γ} {y : Int} : ∀ l : List (Run γ), rval d l y = d ∨ ∃ r ∈ l, rval d l y = r.c
  | [] => .inl rfl
  | r :: rs => by
    rw [rval]
    split
    · exact .inr ⟨r, by simp, rfl⟩
    · rcases rval_mem (y := y) rs with h | ⟨s, hs, h⟩
      · exact .inl h
      · exact .inr ⟨s, List.mem_cons_of_mem _ hs, h⟩

theorem Canon.sok {bs : List Band} (h : Canon bs) (y : Int) : sok (rval [] bs y) := by
  rcases rval_mem (d := ([] : List Sp)) (y := y) bs with e | ⟨r, hr, e⟩
  · rw [e]; exact trivial
  · rw [e]; exact h.2 r hr

/-- THE CANONICAL FORM IS UNIQUE. -/
theorem canon_unique {K : Int → Int → Bool} {l m : List Rc} (hl : CanonFor K l) (hm : CanonFor K m) : l = m := by
  obtain ⟨bs, h1, h2, rfl⟩ := hl
  obtain ⟨cs, g1, g2, rfl⟩ := hm
  rw [runs_unique (d := ([] : List Sp)) h1.1 g1.1 fun y => spans_unique (h1.sok y) (g1.sok y) fun x => (h2 x y).trans (g2 x y).symm]

theorem any_band (lo hi x y : Int) (c : List Sp) : ((c.map (mkR lo hi)).any fun r => insR r x y) = (decide (lo ≤ y ∧ y < hi) && sval c x) := by
  rw [sval_any]
  induction c with
  | nil => simp
  | cons p c ih =>
    rw [List.map_cons, List.any_cons, ih, List.any_cons]
    simp only [insR, mkR]
    by_cases h1 : p.1 ≤ x <;> by_cases h2 : x < p.2 <;> by_cases h3 : lo ≤ y <;> by_cases h4 : y < hi <;> simp [h1, h2, h3, h4]

theorem flat_cons (b : Band) (bs : List Band) : flat (b :: bs) = b.c.map (mkR b.lo b.hi) ++ flat bs := rfl
theorem flat_append (bs cs : List Band) : flat (bs ++ cs) = flat bs ++ flat cs := by simp [flat]

theorem inside_flat (x y : Int) : ∀ {bs : List Band}, rch bs → insideB (flat bs) x y = sval (rval [] bs y) x
  | [], _ => rfl
  | b :: bs, h => by
    have ih := inside_flat x y h.2.2
    rw [flat_cons, insideB, List.any_append, any_band, rval]
    change (_ || insideB (flat bs) x y) = _
    rw [ih]
    by_cases hy : b.lo ≤ y ∧ y < b.hi
    · rw [if_pos hy, rval_out (fun s hs => by have := h.tail_low s hs; omega)]
      simp [hy, sval, runs, rval]
    · rw [if_neg hy]
      simp [hy]

theorem CanonFor.inside {K : Int → Int → Bool} {l : List Rc} (h : CanonFor K l) (x y : Int) : insideB l x y = K x y := by
  obtain ⟨bs, h1, h2, rfl⟩ := h
  rw [inside_flat x y h1.1.1, h2]
theorem CanonFor.canonical {K : Int → Int → Bool} {l : List Rc} (h : CanonFor K l) : Canonical l := by
  obtain ⟨bs, h1, h2, rfl⟩ := h
  exact ⟨bs, h1, rfl⟩
theorem Canonical.for {l : List Rc} (h : Canonical l) : CanonFor (insideB l) l := by
  obtain ⟨bs, h1, rfl⟩ := h
  exact ⟨bs, h1, fun x y => (inside_flat x y h1.1.1).symm, rfl⟩
theorem CanonFor.congr {K L : Int → Int → Bool} {l : List Rc} (h : CanonFor K l) (e : ∀ x y, K x y = L x y) : CanonFor L l := by
  obtain ⟨bs, h1, h2, h3⟩ := h
  exact ⟨bs, h1, fun x y => (h2 x y).trans (e x y), h3⟩
/-- Regions with the same squares are equal. -/
theorem canonical_ext {l m : List Rc} (hl : Canonical l) (hm : Canonical m) (h : ∀ x y, insideB l x y = insideB m x y) : l = m :=
  canon_unique hl.for (hm.for.congr fun x y => (h x y).symm)

/-- The rows and columns of the grid. -/
def properR (r : Rc) : Prop := 0 ≤ r.l ∧ r.l < r.r ∧ r.r ≤ 16384 ∧ 0 ≤ r.b ∧ r.b < r.h ∧ r.h ≤ 16384
instance (r : Rc) : Decidable (properR r) := by unfold properR; infer_instance
def allP (l : List Rc) : Bool := l.all fun r => decide (properR r)
theorem allP_iff {l : List Rc} : allP l = true ↔ ∀ r ∈ l, properR r := by simp [allP]

theorem inside_false {l : List Rc} {x y : Int} (h : ∀ r ∈ l, insR r x y = false) : insideB l x y = false := by
  simpa [insideB] using h

/-- Between two rows where nothing begins or ends all squares are alike. -/
theorem inside_rows {l : List Rc} {x y y' : Int} (hle : y ≤ y') (h : ∀ r ∈ l, ¬ (y < r.b ∧ r.b ≤ y') ∧ ¬ (y < r.h ∧ r.h ≤ y')) : insideB l x y = insideB l x y' := by
  induction l with
  | nil => rfl
  | cons r l ih =>
    have h0 := h r (by simp)
    have e : insR r x y = insR r x y' := by
      simp only [insR]
      congr 1
      · congr 1
        rw [decide_eq_decide]; omega
      · rw [decide_eq_decide]; omega
    show (insR r x y || insideB l x y) = (insR r x y' || insideB l x y')
    rw [e, ih fun r hr => h r (List.mem_cons_of_mem _ hr)]

theorem inside_cols {l : List Rc} {y x x' : Int} (hle : x ≤ x') (h : ∀ r ∈ l, ¬ (x < r.l ∧ r.l ≤ x') ∧ ¬ (x < r.r ∧ r.r ≤ x')) : insideB l x y = insideB l x' y := by
  induction l with
  | nil => rfl
  | cons r l ih =>
    have h0 := h r (by simp)
    have e : insR r x y = insR r x' y := by
      simp only [insR]
      congr 1
      congr 1
      congr 1
      · rw [decide_eq_decide]; omega
      · rw [decide_eq_decide]; omega
    show (insR r x y || insideB l x y) = (insR r x' y || insideB l x' y)
    rw [e, ih fun r hr => h r (List.mem_cons_of_mem _ hr)]

/-- Spans: one more, or the last one longer. -/
def pushS : List Sp → Sp → List Sp
  | [], n => [n]
  | [s], n => if s.2 = n.1 then [(s.1, n.2)] else [s, n]
  | s :: t :: l, n => s :: pushS (t :: l) n

theorem runs_pushS (n : Sp) : ∀ l : List Sp, runs (pushS l n) = push (runs l) ⟨n.1, n.2, true⟩
  | [] => rfl
  | [s] => by
    simp only [pushS, runs, List.map_cons, List.map_nil, push]
    by_cases h : s.2 = n.1 <;> simp [h]
  | s :: t :: l => by
    show _ :: runs (pushS (t :: l) n) = _
    rw [runs_pushS n (t :: l)]
    rfl

theorem pushS_snoc (s n : Sp) : ∀ l : List Sp, pushS (l ++ [s]) n = if s.2 = n.1 then l ++ [(s.1, n.2)] else l ++ [s, n]
  | [] => rfl
  | [a] => by simp only [List.cons_append, List.nil_append, pushS]; split <;> rfl
  | a :: b :: l => by
    show a :: pushS ((b :: l) ++ [s]) n = _
    rw [pushS_snoc s n (b :: l)]
    split <;> rfl

theorem pushS_len (n : Sp) : ∀ l : List Sp, (pushS l n).length ≤ l.length + 1
  | [] => by simp [pushS]
  | [r] => by simp only [pushS]; split <;> simp
  | r :: s :: rs => by simp only [pushS, List.length_cons]; have := pushS_len n (s :: rs); simp at this; omega

/-- Spans of cells (the reference). -/
def spS (K : Int → Bool) : List Sp → List Int → List Sp
  | acc, x0 :: x1 :: xs => spS K (if K x0 = true then pushS acc (x0, x1) else acc) (x1 :: xs)
  | acc, _ => acc

theorem runs_spS (K : Int → Bool) : ∀ (xs : List Int) (acc : List Sp), runs (spS K acc xs) = sweepS false K (runs acc) xs
  | [], acc => rfl
  | [_], acc => rfl
  | x0 :: x1 :: xs, acc => by
    rw [spS, sweepS, runs_spS K (x1 :: xs)]
    by_cases h : K x0 = true
    · rw [if_pos h, if_neg (by simp [h]), runs_pushS, h]
    · rw [if_neg h, if_pos (by simpa using h)]

theorem spS_ok {K f : Int → Bool} {xs : List Int} (hp : xs.Pairwise (· < ·)) (h1 : ∀ x ∈ xs, K x = f x) (h2 : ∀ x x', x ≤ x' → (∀ c ∈ xs, ¬ (x < c ∧ c ≤ x')) → f x = f x') (h3 : ∀ x, (∀ c ∈ xs, c ≤ x) → f x = false) (h4 : ∀ x, (∀ c ∈ xs, ¬ c ≤ x) → f x = false) :
    sok (spS K [] xs) ∧ ∀ x, sval (spS K [] xs) x = f x := by
  obtain ⟨g1, g2⟩ := sweepS_ok (d := false) (sp := K) xs [] hp ⟨trivial, fun r hr => by cases hr⟩ (fun y _ s hs => by cases hs)
  have e : runs (spS K [] xs) = sweepS false K [] xs := runs_spS K xs []
  refine ⟨by unfold sok; rw [e]; exact g1.1, fun x => ?_⟩
  unfold sval
  rw [e, g2]
  split
  · rename_i hc
    exact cellv_eq xs hp h1 (fun y y' a b _ => h2 y y' a b) h3 x hc
  · rename_i hc
    exact (h4 x fun c hcm hcx => hc ⟨c, hcm, hcx⟩).symm

/-- What is computed band by band is canonical. -/
theorem bands_for {K : Int → Int → Bool} {sp : Int → List Sp} {ys : List Int} (hp : ys.Pairwise (· < ·)) (hs : ∀ y, sok (sp y) ∧ ∀ x, sval (sp y) x = K x y) (h2 : ∀ x y y', y ≤ y' → (∀ c ∈ ys, ¬ (y < c ∧ c ≤ y')) → K x y = K x y') (h3 : ∀ x y, (∀ c ∈ ys, c ≤ y) → K x y = false) (h4 : ∀ x y, (∀ c ∈ ys, ¬ c ≤ y) → K x y = false) (x y : Int) :
    sval (if (∃ c ∈ ys, c ≤ y) then cellv [] sp ys y else []) x = K x y := by
  split
  · rename_i hc
    rw [cellv_eq (d := ([] : List Sp)) (f := sp) ys hp (fun _ _ => rfl) (fun a a' haa hcc _ => ?_) (fun a ha => ?_) y hc]
    · exact (hs y).2 x
    · exact spans_unique (hs a).1 (hs a').1 fun z => by rw [(hs a).2, (hs a').2]; exact h2 z a a' haa hcc
    · exact spans_unique (hs a).1 trivial fun z => by rw [(hs a).2, h3 z a ha]; rfl
  · rename_i hc
    exact (h4 x y fun c hcm hcx => hc ⟨c, hcm, hcx⟩).symm

theorem flat_filter (p : Band → Bool) (hp : ∀ b, p b = true ↔ b.c ≠ []) : ∀ bs : List Band, flat (bs.filter p) = flat bs
  | [] => rfl
  | b :: bs => by
    by_cases h : p b = true
    · rw [List.filter_cons_of_pos h, flat_cons, flat_cons, flat_filter p hp bs]
    · rw [List.filter_cons_of_neg h, flat_filter p hp bs, flat_cons]
      have : b.c = [] := by
        by_cases e : b.c = []
        · exact e
        · exact absurd ((hp b).2 e) h
      rw [this]; rfl

theorem sweep_c {γ : Type} [DecidableEq γ] {Q : γ → Prop} {sp : Int → γ} (hs : ∀ y, Q (sp y)) : ∀ (ys : List Int) (acc : List (Run γ)), (∀ b ∈ acc, Q b.c) → ∀ b ∈ sweep sp acc ys, Q b.c
  | [], _, h => h
  | [_], _, h => h
  | y0 :: y1 :: ys, _, h => sweep_c hs (y1 :: ys) _ (push_c (hs y0) h)
theorem sweepS_c {γ : Type} [DecidableEq γ] {d : γ} {Q : γ → Prop} {sp : Int → γ} (hs : ∀ y, Q (sp y)) : ∀ (ys : List Int) (acc : List (Run γ)), (∀ b ∈ acc, Q b.c) → ∀ b ∈ sweepS d sp acc ys, Q b.c
  | [], _, h => h
  | [_], _, h => h
  | y0 :: y1 :: ys, acc, h => by
    rw [sweepS]
    refine sweepS_c hs (y1 :: ys) _ ?_
    split
    · exact h
    · exact push_c (hs y0) h

/-- The code's form. -/
theorem sweep_for {K : Int → Int → Bool} {sp : Int → List Sp} {ys : List Int} (hp : ys.Pairwise (· < ·)) (hs : ∀ y, sok (sp y) ∧ ∀ x, sval (sp y) x = K x y) (h2 : ∀ x y y', y ≤ y' → (∀ c ∈ ys, ¬ (y < c ∧ c ≤ y')) → K x y = K x y') (h3 : ∀ x y, (∀ c ∈ ys, c ≤ y) → K x y = false) (h4 : ∀ x y, (∀ c ∈ ys, ¬ c ≤ y) → K x y = false) :
    CanonFor K (flat (sweep sp [] ys)) := by
  obtain ⟨g1, g2⟩ := sweep_ok (d := ([] : List Sp)) (sp := sp) ys [] hp trivial (fun y _ s hs => by cases hs)
  have hpp : ∀ b : Band, decide (b.c ≠ []) = true ↔ b.c ≠ [] := fun b => decide_eq_true_iff
  obtain ⟨f1, _, f3⟩ := rok_filter (d := ([] : List Sp)) (fun b => decide (b.c ≠ [])) hpp g1
  refine ⟨(sweep sp [] ys).filter fun b => decide (b.c ≠ []), ⟨f1, fun b hb => ?_⟩, fun x y => ?_, (flat_filter _ hpp _).symm⟩
  · exact sweep_c (Q := sok) (fun y => (hs y).1) ys [] (fun b hb => by cases hb) b (List.mem_filter.1 hb).1
  · rw [f3, g2]
    exact bands_for hp hs h2 h3 h4 x y

/-- The reference's form. -/
theorem sweepS_for {K : Int → Int → Bool} {sp : Int → List Sp} {ys : List Int} (hp : ys.Pairwise (· < ·)) (hs : ∀ y, sok (sp y) ∧ ∀ x, sval (sp y) x = K x y) (h2 : ∀ x y y', y ≤ y' → (∀ c ∈ ys, ¬ (y < c ∧ c ≤ y')) → K x y = K x y') (h3 : ∀ x y, (∀ c ∈ ys, c ≤ y) → K x y = false) (h4 : ∀ x y, (∀ c ∈ ys, ¬ c ≤ y) → K x y = false) :
    CanonFor K (flat (sweepS [] sp [] ys)) := by
  obtain ⟨g1, g2⟩ := sweepS_ok (d := ([] : List Sp)) (sp := sp) ys [] hp ⟨trivial, fun r hr => by cases hr⟩ (fun y _ s hs => by cases hs)
  refine ⟨_, ⟨g1, ?_⟩, fun x y => ?_, rfl⟩
  · exact sweepS_c (Q := sok) (fun y => (hs y).1) ys [] (fun b hb => by cases hb)
  · rw [g2]
    exact bands_for hp hs h2 h3 h4 x y
end Go.Proofs.Ytkpmgdhaollheaa
