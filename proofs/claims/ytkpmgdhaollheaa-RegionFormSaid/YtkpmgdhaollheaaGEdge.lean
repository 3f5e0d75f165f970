/- The sweep over edges (the code) and over cells (the reference): both give the canonical form. -/
import Derived.Test.YtkpmgdhaollheaaGSet
namespace Go.Proofs.Ytkpmgdhaollheaa

structure Ed where
  x : Int
  lo : Int
  hi : Int
  list : Int
  more : Int
instance : Inhabited Ed := ⟨⟨0, 0, 0, 0, 0⟩⟩

def eds2 (k : Int) (r : Rc) : List Ed := [⟨r.l, r.b, r.h, k, 1⟩, ⟨r.r, r.b, r.h, k, -1⟩]
def edgesOf (l : List Rc) (k : Int) : List Ed := l.flatMap (eds2 k)

structure SpSt where
  sp : List Sp
  c0 : Int
  c1 : Int
  x : Int

def spStep (k : Bool → Bool → Bool) (y : Int) (s : SpSt) (e : Ed) : SpSt :=
  if y < e.lo ∨ e.hi ≤ y then s
  else ⟨if s.x < e.x ∧ k (decide (0 < s.c0)) (decide (0 < s.c1)) = true then pushS s.sp (s.x, e.x) else s.sp, if e.list = 0 then s.c0 + e.more else s.c0, if e.list = 0 then s.c1 else s.c1 + e.more, e.x⟩
def spansSt (k : Bool → Bool → Bool) (y : Int) (E : List Ed) : SpSt := E.foldl (spStep k y) ⟨[], 0, 0, 0⟩
def spansOf (k : Bool → Bool → Bool) (E : List Ed) (y : Int) : List Sp := (spansSt k y E).sp

/-- A sum over edges. -/
def wsum (f : Ed → Int) : List Ed → Int
  | [] => 0
  | e :: E => f e + wsum f E
theorem wsum_append (f : Ed → Int) : ∀ (E F : List Ed), wsum f (E ++ F) = wsum f E + wsum f F
  | [], F => by simp [wsum]
  | e :: E, F => by simp only [List.cons_append, wsum]; rw [wsum_append f E F]; omega
theorem wsum_perm (f : Ed → Int) {E F : List Ed} (h : E.Perm F) : wsum f E = wsum f F := by
  induction h with
  | nil => rfl
  | cons _ _ ih => simp only [wsum]; rw [ih]
  | swap _ _ _ => simp only [wsum]; omega
  | trans _ _ a b => exact a.trans b
theorem wsum_congr {f g : Ed → Int} : ∀ {E : List Ed}, (∀ e ∈ E, f e = g e) → wsum f E = wsum g E
  | [], _ => rfl
  | e :: E, h => by simp only [wsum]; rw [h e (by simp), wsum_congr fun e he => h e (List.mem_cons_of_mem _ he)]
theorem wsum_zero {f : Ed → Int} {E : List Ed} (h : ∀ e ∈ E, f e = 0) : wsum f E = 0 := by
  induction E with
  | nil => rfl
  | cons e E ih => simp only [wsum]; rw [h e (by simp), ih fun e he => h e (List.mem_cons_of_mem _ he)]; rfl

def act (y : Int) (e : Ed) : Bool := decide (e.lo ≤ y) && decide (y < e.hi)
def wt (j y : Int) (q : Int → Bool) (e : Ed) : Int := if decide (e.list = j) && act y e && q e.x then e.more else 0
def left0 (x x' : Int) : Bool := decide (x' ≤ x)

theorem wt_eds2 {j k y x : Int} {r : Rc} (h : r.l < r.r) : wsum (wt j y (left0 x)) (eds2 k r) = if k = j ∧ insR r x y = true then 1 else 0 := by
  simp only [eds2, wsum, wt, act, left0, insR]
  by_cases h1 : k = j <;> by_cases h2 : r.b ≤ y <;> by_cases h3 : y < r.h <;> by_cases h4 : r.l ≤ x <;> by_cases h5 : r.r ≤ x <;> simp [h1, h2, h3, h4, h5] <;> omega
theorem wt_all_eds2 {j k y : Int} {r : Rc} : wsum (wt j y fun _ => true) (eds2 k r) = 0 := by
  simp only [eds2, wsum, wt, act]
  by_cases h1 : k = j <;> by_cases h2 : r.b ≤ y <;> by_cases h3 : y < r.h <;> simp [h1, h2, h3]

theorem wt_all (j k y : Int) : ∀ l : List Rc, wsum (wt j y fun _ => true) (edgesOf l k) = 0
  | [] => rfl
  | r :: l => by
    show wsum _ (eds2 k r ++ edgesOf l k) = 0
    rw [wsum_append, wt_all_eds2, wt_all j k y l]; rfl
theorem wt_other {j k y x : Int} (hk : k ≠ j) : ∀ {l : List Rc}, (∀ r ∈ l, r.l < r.r) → wsum (wt j y (left0 x)) (edgesOf l k) = 0
  | [], _ => rfl
  | r :: l, h => by
    show wsum _ (eds2 k r ++ edgesOf l k) = 0
    rw [wsum_append, wt_eds2 (h r (by simp)), wt_other hk fun r hr => h r (List.mem_cons_of_mem _ hr), if_neg fun h => hk h.1]; rfl
theorem wt_same {j y x : Int} : ∀ {l : List Rc}, (∀ r ∈ l, r.l < r.r) → 0 ≤ wsum (wt j y (left0 x)) (edgesOf l j) ∧ (0 < wsum (wt j y (left0 x)) (edgesOf l j) ↔ insideB l x y = true)
  | [], _ => by simp [edgesOf, wsum, insideB]
  | r :: l, h => by
    have ih := wt_same (j := j) (y := y) (x := x) (l := l) fun r hr => h r (List.mem_cons_of_mem _ hr)
    have e : wsum (wt j y (left0 x)) (edgesOf (r :: l) j) = (if insR r x y = true then 1 else 0) + wsum (wt j y (left0 x)) (edgesOf l j) := by
      show wsum _ (eds2 j r ++ edgesOf l j) = _
      rw [wsum_append, wt_eds2 (h r (by simp))]
      simp
    have e2 : insideB (r :: l) x y = (insR r x y || insideB l x y) := rfl
    rw [e, e2]
    by_cases hr : insR r x y = true
    · simp only [hr, if_true, Bool.true_or]
      exact ⟨by omega, ⟨fun _ => trivial, fun _ => by omega⟩⟩
    · simp only [hr, if_false, Bool.false_eq_true]
      rw [Bool.false_or]
      exact ⟨by omega, ⟨fun h => ih.2.1 (by omega), fun h => by have := ih.2.2 h; omega⟩⟩

/-- How many rectangles of both lists cover a square. -/
theorem covers {a b : List Rc} {E : List Ed} (ha : ∀ r ∈ a, r.l < r.r) (hb : ∀ r ∈ b, r.l < r.r) (hE : E.Perm (edgesOf a 0 ++ edgesOf b 1)) (x y : Int) :
    decide (0 < wsum (wt 0 y (left0 x)) E) = insideB a x y ∧ decide (0 < wsum (wt 1 y (left0 x)) E) = insideB b x y := by
  have h0 := wt_same (j := 0) (y := y) (x := x) ha
  have h1 := wt_same (j := 1) (y := y) (x := x) hb
  constructor
  · rw [wsum_perm _ hE, wsum_append, wt_other (j := 0) (k := 1) (by omega) hb, Int.add_zero, Bool.eq_iff_iff, decide_eq_true_iff]; exact h0.2
  · rw [wsum_perm _ hE, wsum_append, wt_other (j := 1) (k := 0) (by omega) ha, Int.zero_add, Bool.eq_iff_iff, decide_eq_true_iff]; exact h1.2

/-- What the sweep knows behind some edges. -/
structure SpInv (k : Bool → Bool → Bool) (y : Int) (E P Q : List Ed) (s : SpSt) : Prop where
  c0 : s.c0 = wsum (wt 0 y fun _ => true) P
  c1 : s.c1 = wsum (wt 1 y fun _ => true) P
  left : ∀ e ∈ P, act y e = true → e.x ≤ s.x
  right : ∀ e ∈ Q, s.x ≤ e.x
  ok : sok s.sp
  hi : ∀ p ∈ runs s.sp, p.hi ≤ s.x
  val : ∀ x, sval s.sp x = (decide (x < s.x) && k (decide (0 < wsum (wt 0 y (left0 x)) E)) (decide (0 < wsum (wt 1 y (left0 x)) E)))

theorem sp_inv {k : Bool → Bool → Bool} {y : Int} {E : List Ed} (hl : ∀ e ∈ E, e.list = 0 ∨ e.list = 1) (hs : E.Pairwise fun e f => e.x ≤ f.x) : ∀ (Q P : List Ed) (s : SpSt), E = P ++ Q → SpInv k y E P Q s → SpInv k y E E [] (Q.foldl (spStep k y) s)
  | [], P, s, hE, h => by
    rw [List.append_nil] at hE
    subst hE
    exact h
  | e :: Q, P, s, hE, h => by
    have hE' : E = (P ++ [e]) ++ Q := by rw [hE]; simp
    refine sp_inv hl hs Q (P ++ [e]) _ hE' ?_
    have hmem : e ∈ E := by rw [hE]; simp
    have hQ : ∀ f ∈ Q, e.x ≤ f.x := by
      rw [hE] at hs
      exact (List.pairwise_cons.1 (List.pairwise_append.1 hs).2.1).1
    have hx := h.right e (by simp)
    by_cases ha : y < e.lo ∨ e.hi ≤ y
    · have hna : act y e = false := by
        simp only [act]
        rcases ha with ha | ha
        · have : ¬ e.lo ≤ y := by omega
          simp [this]
        · have : ¬ y < e.hi := by omega
          simp [this]
      have hw : ∀ j q, wt j y q e = 0 := fun j q => by simp [wt, hna]
      have hst : spStep k y s e = s := by simp [spStep, ha]
      rw [hst]
      refine ⟨?_, ?_, fun f hf hfa => ?_, fun f hf => h.right f (List.mem_cons_of_mem _ hf), h.ok, h.hi, h.val⟩
      · rw [wsum_append, ← h.c0]; simp [wsum, hw]
      · rw [wsum_append, ← h.c1]; simp [wsum, hw]
      · rcases List.mem_append.1 hf with hf | hf
        · exact h.left f hf hfa
        · simp at hf; subst hf; rw [hna] at hfa; cases hfa
    · have hact : act y e = true := by
        simp only [act]
        have h1 : e.lo ≤ y := by omega
        have h2 : y < e.hi := by omega
        simp [h1, h2]
      have hst : spStep k y s e = ⟨if s.x < e.x ∧ k (decide (0 < s.c0)) (decide (0 < s.c1)) = true then pushS s.sp (s.x, e.x) else s.sp, if e.list = 0 then s.c0 + e.more else s.c0, if e.list = 0 then s.c1 else s.c1 + e.more, e.x⟩ := by simp only [spStep]; rw [if_neg ha]
      rw [hst]
      have hcount : ∀ j x, s.x ≤ x → x < e.x → wsum (wt j y (left0 x)) E = wsum (wt j y fun _ => true) P := by
        intro j x h1 h2
        rw [hE, wsum_append, wsum_zero (E := e :: Q), Int.add_zero]
        · refine wsum_congr fun f hf => ?_
          simp only [wt]
          by_cases hfa : act y f = true
          · have := h.left f hf hfa
            have h3 : f.x ≤ x := by omega
            simp [left0, h3]
          · simp [hfa]
        · intro f hf
          have h3 : ¬ f.x ≤ x := by
            rcases List.mem_cons.1 hf with rfl | hf
            · omega
            · have := hQ f hf; omega
          simp [wt, left0, h3]
      refine ⟨?_, ?_, fun f hf hfa => ?_, fun f hf => hQ f hf, ?_, ?_, fun x => ?_⟩
      · show (if e.list = 0 then s.c0 + e.more else s.c0) = _
        rw [wsum_append, ← h.c0]
        rcases hl e hmem with h0 | h0 <;> simp [wsum, wt, h0, hact]
      · show (if e.list = 0 then s.c1 else s.c1 + e.more) = _
        rw [wsum_append, ← h.c1]
        rcases hl e hmem with h0 | h0 <;> simp [wsum, wt, h0, hact]
      · rcases List.mem_append.1 hf with hf | hf
        · have := h.left f hf hfa
          show f.x ≤ e.x
          omega
        · simp at hf; subst hf; exact Int.le_refl _
      · show sok (if s.x < e.x ∧ k (decide (0 < s.c0)) (decide (0 < s.c1)) = true then pushS s.sp (s.x, e.x) else s.sp)
        split
        · rename_i hc
          unfold sok
          rw [runs_pushS]
          exact rch_push hc.1 h.ok h.hi
        · exact h.ok
      · show ∀ p ∈ runs (if s.x < e.x ∧ k (decide (0 < s.c0)) (decide (0 < s.c1)) = true then pushS s.sp (s.x, e.x) else s.sp), p.hi ≤ e.x
        split
        · rename_i hc
          rw [runs_pushS]
          exact push_hi (n := ⟨s.x, e.x, true⟩) hc.1 h.hi
        · intro p hp
          have := h.hi p hp
          omega
      · show sval (if s.x < e.x ∧ k (decide (0 < s.c0)) (decide (0 < s.c1)) = true then pushS s.sp (s.x, e.x) else s.sp) x = (decide (x < e.x) && _)
        by_cases hxe : x < e.x
        · by_cases hxs : x < s.x
          · have hv := h.val x
            simp only [hxs, decide_true, Bool.true_and] at hv
            simp only [hxe, decide_true, Bool.true_and]
            split
            · rename_i hc
              unfold sval
              rw [runs_pushS, rval_push hc.1 h.ok h.hi, if_neg (by simp; omega)]
              exact hv
            · exact hv
          · have hv := h.val x
            simp only [hxs, decide_false, Bool.false_and] at hv
            simp only [hxe, decide_true, Bool.true_and]
            rw [hcount 0 x (by omega) hxe, hcount 1 x (by omega) hxe, ← h.c0, ← h.c1]
            split
            · rename_i hc
              unfold sval
              rw [runs_pushS, rval_push hc.1 h.ok h.hi, if_pos ⟨by simp; omega, hxe⟩]
              exact hc.2.symm
            · rename_i hc
              rw [hv]
              have hsx : s.x < e.x := by omega
              have : ¬ k (decide (0 < s.c0)) (decide (0 < s.c1)) = true := fun hk => hc ⟨hsx, hk⟩
              simpa using this
        · have hv := h.val x
          have hxs : ¬ x < s.x := by omega
          simp only [hxs, decide_false, Bool.false_and] at hv
          simp only [hxe, decide_false, Bool.false_and]
          split
          · rename_i hc
            unfold sval
            rw [runs_pushS, rval_push hc.1 h.ok h.hi, if_neg (by simp; omega)]
            exact hv
          · exact hv

/-- The spans of a row are those of the set. -/
theorem spansOf_ok {k : Bool → Bool → Bool} (hk : k false false = false) {a b : List Rc} {E : List Ed} (ha : ∀ r ∈ a, properR r) (hb : ∀ r ∈ b, properR r) (hE : E.Perm (edgesOf a 0 ++ edgesOf b 1)) (hs : E.Pairwise fun e f => e.x ≤ f.x) (y : Int) :
    sok (spansOf k E y) ∧ ∀ x, sval (spansOf k E y) x = k (insideB a x y) (insideB b x y) := by
  have hmem : ∀ e ∈ E, (e.list = 0 ∨ e.list = 1) ∧ 0 ≤ e.x := by
    intro e he
    have := hE.mem_iff.1 he
    simp only [List.mem_append, edgesOf, List.mem_flatMap, eds2] at this
    rcases this with ⟨r, hr, h⟩ | ⟨r, hr, h⟩
    · have hp := ha r hr
      unfold properR at hp
      simp at h
      rcases h with rfl | rfl <;> exact ⟨by simp, by simp; omega⟩
    · have hp := hb r hr
      unfold properR at hp
      simp at h
      rcases h with rfl | rfl <;> exact ⟨by simp, by simp; omega⟩
  have hl : ∀ e ∈ E, e.list = 0 ∨ e.list = 1 := fun e he => (hmem e he).1
  have hc := covers (fun r hr => (ha r hr).2.1) (fun r hr => (hb r hr).2.1) hE
  have hnone : ∀ j x, x < 0 → wsum (wt j y (left0 x)) E = 0 := fun j x hx => wsum_zero fun e he => by
    have := (hmem e he).2
    have h3 : ¬ e.x ≤ x := by omega
    simp [wt, left0, h3]
  have h := sp_inv (k := k) (y := y) hl hs E [] ⟨[], 0, 0, 0⟩ rfl ⟨rfl, rfl, (fun e he => by cases he), (fun e he => (hmem e he).2), trivial, (fun p hp => by cases hp), fun x => ?_⟩
  · have hT : ∀ j, wsum (wt j y fun _ => true) E = 0 := fun j => by
      rw [wsum_perm _ hE, wsum_append, wt_all, wt_all]; rfl
    refine ⟨h.ok, fun x => ?_⟩
    show sval (spansSt k y E).sp x = _
    rw [show spansSt k y E = E.foldl (spStep k y) ⟨[], 0, 0, 0⟩ from rfl, h.val, ← (hc x y).1, ← (hc x y).2]
    by_cases hx : x < (E.foldl (spStep k y) ⟨[], 0, 0, 0⟩).x
    · simp only [hx, decide_true, Bool.true_and]
    · simp only [hx, decide_false, Bool.false_and]
      have e : ∀ j, wsum (wt j y (left0 x)) E = 0 := fun j => by
        rw [← hT j]
        refine wsum_congr fun f hf => ?_
        simp only [wt]
        by_cases hfa : act y f = true
        · have := h.left f hf hfa
          have h3 : f.x ≤ x := by omega
          simp [left0, h3]
        · simp [hfa]
      rw [e, e]
      simp [hk]
  · show false = _
    by_cases hx : x < 0
    · rw [hnone 0 x hx, hnone 1 x hx]
      simp [hk]
    · have : ¬ x < (⟨[], 0, 0, 0⟩ : SpSt).x := hx
      simp [this]

/-- WHAT THE CODE COMPUTES. -/
def chooseL (k : Bool → Bool → Bool) (E : List Ed) (cuts : List Int) : List Rc := flat (sweep (spansOf k E) [] cuts)

theorem set_rows {k : Bool → Bool → Bool} {a b : List Rc} {ys : List Int} (hy : ∀ r, r ∈ a ∨ r ∈ b → r.b ∈ ys ∧ r.h ∈ ys) (x y y' : Int) (h : y ≤ y') (hc : ∀ c ∈ ys, ¬ (y < c ∧ c ≤ y')) : k (insideB a x y) (insideB b x y) = k (insideB a x y') (insideB b x y') := by
  rw [inside_rows h fun r hr => ⟨hc _ (hy r (.inl hr)).1, hc _ (hy r (.inl hr)).2⟩, inside_rows h fun r hr => ⟨hc _ (hy r (.inr hr)).1, hc _ (hy r (.inr hr)).2⟩]
theorem set_above {k : Bool → Bool → Bool} (hk : k false false = false) {a b : List Rc} {ys : List Int} (hy : ∀ r, r ∈ a ∨ r ∈ b → r.b ∈ ys ∧ r.h ∈ ys) (x y : Int) (hc : ∀ c ∈ ys, c ≤ y) : k (insideB a x y) (insideB b x y) = false := by
  have : ∀ r, r ∈ a ∨ r ∈ b → insR r x y = false := fun r hr => by
    have := hc _ (hy r hr).2
    have h2 : ¬ y < r.h := by omega
    simp [insR, h2]
  rw [inside_false fun r hr => this r (.inl hr), inside_false fun r hr => this r (.inr hr), hk]
theorem set_below {k : Bool → Bool → Bool} (hk : k false false = false) {a b : List Rc} {ys : List Int} (hy : ∀ r, r ∈ a ∨ r ∈ b → r.b ∈ ys ∧ r.h ∈ ys) (x y : Int) (hc : ∀ c ∈ ys, ¬ c ≤ y) : k (insideB a x y) (insideB b x y) = false := by
  have : ∀ r, r ∈ a ∨ r ∈ b → insR r x y = false := fun r hr => by
    have h2 := hc _ (hy r hr).1
    simp [insR, h2]
  rw [inside_false fun r hr => this r (.inl hr), inside_false fun r hr => this r (.inr hr), hk]

theorem choose_for {k : Bool → Bool → Bool} (hk : k false false = false) {a b : List Rc} {E : List Ed} {cuts : List Int} (ha : ∀ r ∈ a, properR r) (hb : ∀ r ∈ b, properR r) (hE : E.Perm (edgesOf a 0 ++ edgesOf b 1)) (hs : E.Pairwise fun e f => e.x ≤ f.x)
    (hp : cuts.Pairwise (· < ·)) (hcuts : ∀ e ∈ E, e.lo ∈ cuts ∧ e.hi ∈ cuts) : CanonFor (fun x y => k (insideB a x y) (insideB b x y)) (chooseL k E cuts) := by
  have hy : ∀ r, r ∈ a ∨ r ∈ b → r.b ∈ cuts ∧ r.h ∈ cuts := by
    intro r hr
    have : ∃ j, (⟨r.l, r.b, r.h, j, 1⟩ : Ed) ∈ E := by
      rcases hr with hr | hr
      · exact ⟨0, hE.mem_iff.2 (List.mem_append_left _ (List.mem_flatMap.2 ⟨r, hr, by simp [eds2]⟩))⟩
      · exact ⟨1, hE.mem_iff.2 (List.mem_append_right _ (List.mem_flatMap.2 ⟨r, hr, by simp [eds2]⟩))⟩
    obtain ⟨j, hj⟩ := this
    exact hcuts _ hj
  exact sweep_for hp (fun y => spansOf_ok hk ha hb hE hs y) (fun x y y' h hc => set_rows hy x y y' h hc) (fun x y hc => set_above hk hy x y hc) (fun x y hc => set_below hk hy x y hc)

/-- WHAT THE REFERENCE COMPUTES. -/
def lastH (l : List Rc) : Int := match l with | [] => 0 | r :: _ => r.h
def sameB : List Rc → List Rc → Bool
  | [], [] => true
  | r :: l, s :: m => decide (r.l = s.l ∧ r.r = s.r) && sameB l m
  | _, _ => false
def setH (y : Int) (l : List Rc) : List Rc := l.map fun r => ⟨r.l, r.b, r.r, y⟩

def refStep (sp : Int → List Sp) : List Rc → List Rc → List Int → List Rc
  | out, last, y0 :: y1 :: ys =>
    if last ≠ [] ∧ sameB last ((sp y0).map (mkR y0 y1)) = true ∧ lastH last = y0 then refStep sp out (setH y1 last) (y1 :: ys)
    else refStep sp (out ++ last) ((sp y0).map (mkR y0 y1)) (y1 :: ys)
  | out, last, _ => out ++ last

theorem sameB_map {a b c d : Int} : ∀ {s t : List Sp}, sameB (s.map (mkR a b)) (t.map (mkR c d)) = decide (s = t)
  | [], [] => by simp [sameB]
  | [], _ :: _ => by simp [sameB]
  | _ :: _, [] => by simp [sameB]
  | p :: s, q :: t => by
    simp only [List.map_cons, sameB, sameB_map (s := s) (t := t), mkR]
    by_cases h : p = q
    · subst h; simp
    · have : ¬ (p.1 = q.1 ∧ p.2 = q.2) := fun e => h (Prod.ext e.1 e.2)
      simp [h, this]

theorem setH_map {a b y : Int} (s : List Sp) : setH y (s.map (mkR a b)) = s.map (mkR a y) := by
  simp [setH, mkR]

/-- How the reference holds the bands so far. -/
def RefAt (acc : List Band) (out last : List Rc) (y : Int) : Prop :=
  (last = [] ∧ out = flat acc ∧ ∀ b ∈ acc, b.hi < y) ∨ ∃ aa b, acc = aa ++ [b] ∧ b.c ≠ [] ∧ b.hi = y ∧ out = flat aa ∧ last = b.c.map (mkR b.lo b.hi)

theorem refStep_eq {sp : Int → List Sp} : ∀ (ys : List Int) (acc : List Band) (out last : List Rc), ys.Pairwise (· < ·) → (∀ y, ys.head? = some y → RefAt acc out last y ∧ ∀ b ∈ acc, b.hi ≤ y) → (ys = [] → out ++ last = flat acc) → refStep sp out last ys = flat (sweepS [] sp acc ys)
  | [], acc, out, last, _, _, h => by simpa [refStep, sweepS] using h rfl
  | [y0], acc, out, last, _, h, _ => by
    simp only [refStep, sweepS]
    rcases (h y0 rfl).1 with ⟨rfl, rfl, _⟩ | ⟨aa, b, rfl, _, _, rfl, rfl⟩
    · simp
    · rw [flat_append]; simp [flat]
  | y0 :: y1 :: ys, acc, out, last, hp, h, _ => by
    have hp' := List.pairwise_cons.1 hp
    have hlt : y0 < y1 := hp'.1 y1 (by simp)
    obtain ⟨hr, hb⟩ := h y0 rfl
    rw [refStep, sweepS]
    rcases hr with ⟨rfl, rfl, hl⟩ | ⟨aa, b, rfl, hbc, hbh, rfl, rfl⟩
    · rw [if_neg (by simp)]
      rw [refStep_eq (y1 :: ys) (if sp y0 = [] then acc else push acc ⟨y0, y1, sp y0⟩) _ _ hp'.2 (fun y hy => ?_) (by simp)]
      cases hy
      by_cases hs : sp y0 = []
      · rw [if_pos hs, hs]
        exact ⟨.inl ⟨rfl, by simp, fun b hb' => by have := hl b hb'; omega⟩, fun b hb' => by have := hl b hb'; omega⟩
      · rw [if_neg hs]
        have hpush : push acc ⟨y0, y1, sp y0⟩ = acc ++ [⟨y0, y1, sp y0⟩] := by
          rcases List.eq_nil_or_concat acc with rfl | ⟨aa, b, rfl⟩
          · rfl
          · rw [List.concat_eq_append, push_snoc, if_neg]
            · simp
            · intro e
              have := hl b (by simp)
              have e1 : b.hi = y0 := e.1
              omega
        rw [hpush]
        refine ⟨.inr ⟨acc, ⟨y0, y1, sp y0⟩, rfl, hs, rfl, by simp, rfl⟩, fun b hb' => ?_⟩
        rcases List.mem_append.1 hb' with hb' | hb'
        · have := hl b hb'; omega
        · simp at hb'; subst hb'; exact Int.le_refl _
    · have hne : b.c.map (mkR b.lo b.hi) ≠ [] := by simpa using hbc
      have hlh : lastH (b.c.map (mkR b.lo b.hi)) = b.hi := by
        cases hc : b.c with
        | nil => exact absurd hc hbc
        | cons p s => rfl
      rw [sameB_map, hlh]
      by_cases he : b.c = sp y0
      · rw [if_pos ⟨hne, by simp [he], hbh⟩, if_neg (by rw [← he]; exact hbc), push_snoc, if_pos ⟨hbh, he⟩]
        rw [refStep_eq (y1 :: ys) (aa ++ [⟨b.lo, y1, b.c⟩]) _ _ hp'.2 (fun y hy => ?_) (by simp)]
        cases hy
        refine ⟨.inr ⟨aa, ⟨b.lo, y1, b.c⟩, rfl, hbc, rfl, rfl, ?_⟩, fun c hc => ?_⟩
        · rw [setH_map]
        · rcases List.mem_append.1 hc with hc | hc
          · have := hb c (List.mem_append_left _ hc); omega
          · simp at hc; subst hc; exact Int.le_refl _
      · rw [if_neg (by simp [he])]
        have hf : flat aa ++ b.c.map (mkR b.lo b.hi) = flat (aa ++ [b]) := by rw [flat_append]; simp [flat]
        rw [hf]
        by_cases hs : sp y0 = []
        · rw [if_pos hs, hs]
          rw [refStep_eq (y1 :: ys) (aa ++ [b]) _ _ hp'.2 (fun y hy => ?_) (by simp)]
          cases hy
          exact ⟨.inl ⟨rfl, rfl, fun c hc => by have := hb c hc; omega⟩, fun c hc => by have := hb c hc; omega⟩
        · rw [if_neg hs, push_snoc, if_neg (fun e => he e.2)]
          rw [refStep_eq (y1 :: ys) (aa ++ [b, ⟨y0, y1, sp y0⟩]) _ _ hp'.2 (fun y hy => ?_) (by simp)]
          cases hy
          refine ⟨.inr ⟨aa ++ [b], ⟨y0, y1, sp y0⟩, by simp, hs, rfl, rfl, rfl⟩, fun c hc => ?_⟩
          have hc' : c ∈ aa ++ [b] ∨ c = ⟨y0, y1, sp y0⟩ := by
            simp only [List.mem_append, List.mem_cons, List.not_mem_nil, or_false] at hc ⊢
            rcases hc with hc | rfl | rfl
            · exact .inl (.inl hc)
            · exact .inl (.inr rfl)
            · exact .inr rfl
          rcases hc' with hc | rfl
          · have := hb c hc; omega
          · exact Int.le_refl _

def refL (k : Bool → Bool → Bool) (a b : List Rc) (xs ys : List Int) : List Rc := refStep (fun y => spS (fun x => k (insideB a x y) (insideB b x y)) [] xs) [] [] ys

theorem ref_for {k : Bool → Bool → Bool} (hk : k false false = false) {a b : List Rc} {xs ys : List Int} (hxp : xs.Pairwise (· < ·)) (hyp : ys.Pairwise (· < ·)) (hx : ∀ r, r ∈ a ∨ r ∈ b → r.l ∈ xs ∧ r.r ∈ xs) (hy : ∀ r, r ∈ a ∨ r ∈ b → r.b ∈ ys ∧ r.h ∈ ys) :
    CanonFor (fun x y => k (insideB a x y) (insideB b x y)) (refL k a b xs ys) := by
  unfold refL
  rw [refStep_eq ys [] [] [] hyp (fun y _ => ⟨.inl ⟨rfl, rfl, fun b hb => by cases hb⟩, fun b hb => by cases hb⟩) (fun _ => rfl)]
  refine sweepS_for hyp (fun y => ?_) (fun x y y' h hc => set_rows hy x y y' h hc) (fun x y hc => set_above hk hy x y hc) (fun x y hc => set_below hk hy x y hc)
  refine spS_ok hxp (fun _ _ => rfl) (fun x x' h hc => ?_) (fun x hc => ?_) (fun x hc => ?_)
  · show k _ _ = k _ _
    rw [inside_cols h fun r hr => ⟨hc _ (hx r (.inl hr)).1, hc _ (hx r (.inl hr)).2⟩, inside_cols h fun r hr => ⟨hc _ (hx r (.inr hr)).1, hc _ (hx r (.inr hr)).2⟩]
  · have : ∀ r, r ∈ a ∨ r ∈ b → insR r x y = false := fun r hr => by
      have := hc _ (hx r hr).2
      have h2 : ¬ x < r.r := by omega
      simp [insR, h2]
    show k _ _ = false
    rw [inside_false fun r hr => this r (.inl hr), inside_false fun r hr => this r (.inr hr), hk]
  · have : ∀ r, r ∈ a ∨ r ∈ b → insR r x y = false := fun r hr => by
      have h2 := hc _ (hx r hr).1
      simp [insR, h2]
    show k _ _ = false
    rw [inside_false fun r hr => this r (.inl hr), inside_false fun r hr => this r (.inr hr), hk]
end Go.Proofs.Ytkpmgdhaollheaa
