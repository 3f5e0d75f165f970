/- The test of the canonical form, band by band. -/
import Derived.Test.YtkpmgdhaollheaaGEdge
namespace Go.Proofs.Ytkpmgdhaollheaa

def sameRow (lo hi : Int) (r : Rc) : Bool := decide (r.b = lo) && decide (r.h = hi)
def spOf (r : Rc) : Sp := (r.l, r.r)
def bandSp (lo hi : Int) (l : List Rc) : List Sp := (l.takeWhile (sameRow lo hi)).map spOf
def firstSp : List Rc → List Sp
  | [] => []
  | r :: l => bandSp r.b r.h (r :: l)

def partP (l : List Sp) : Prop := ∀ j, j + 1 < l.length → l[j]!.2 < l[j + 1]!.1

inductive Vld : Int → List Sp → List Rc → Prop
  | nil (bh : Int) (bs : List Sp) : Vld bh bs []
  | cons (bh : Int) (bs : List Sp) (r : Rc) (l : List Rc) : partP (firstSp (r :: l)) → ¬ r.b < bh → ¬ (bh = r.b ∧ bs = firstSp (r :: l)) → Vld r.h (firstSp (r :: l)) ((r :: l).drop (firstSp (r :: l)).length) → Vld bh bs (r :: l)

theorem partP_cons {s t : Sp} {l : List Sp} : partP (s :: t :: l) ↔ s.2 < t.1 ∧ partP (t :: l) := by
  constructor
  · intro h
    refine ⟨by simpa using h 0 (by simp), fun j hj => ?_⟩
    have := h (j + 1) (by simp at hj ⊢; omega)
    simpa using this
  · rintro ⟨h1, h2⟩ j hj
    cases j with
    | zero => simpa using h1
    | succ j => simpa using h2 j (by simp at hj ⊢; omega)

theorem sok_of {l : List Sp} (hp : partP l) (hl : ∀ s ∈ l, s.1 < s.2) : sok l := by
  induction l with
  | nil => exact trivial
  | cons s l ih =>
    cases l with
    | nil => exact ⟨hl s (by simp), (fun t ht => by cases ht), trivial⟩
    | cons t l =>
      obtain ⟨h1, h2⟩ := partP_cons.1 hp
      exact ⟨hl s (by simp), fun u hu => by cases hu; exact ⟨by show s.2 ≤ t.1; omega, fun e => by have e' : s.2 = t.1 := e; omega⟩, ih h2 fun u hu => hl u (List.mem_cons_of_mem _ hu)⟩

theorem part_of {l : List Sp} (h : sok l) : partP l := by
  induction l with
  | nil => intro j hj; simp at hj
  | cons s l ih =>
    cases l with
    | nil => intro j hj; simp at hj
    | cons t l =>
      refine partP_cons.2 ⟨?_, ih h.2.2⟩
      have h1 := h.2.1 ⟨t.1, t.2, true⟩ rfl
      have h2 : s.2 ≤ t.1 := h1.1
      have h3 : s.2 ≠ t.1 := fun e => h1.2 e rfl
      omega

theorem bandSp_split (lo hi : Int) (l : List Rc) : l = (bandSp lo hi l).map (mkR lo hi) ++ l.drop (bandSp lo hi l).length := by
  unfold bandSp
  rw [List.length_map, List.map_map]
  induction l with
  | nil => rfl
  | cons r l ih =>
    by_cases h : sameRow lo hi r = true
    · rw [List.takeWhile_cons_of_pos h]
      have e : (mkR lo hi ∘ spOf) r = r := by
        simp only [sameRow, Bool.and_eq_true, decide_eq_true_eq] at h
        cases r
        simp only at h
        obtain ⟨rfl, rfl⟩ := h
        rfl
      simp only [List.map_cons, List.length_cons, List.drop_succ_cons, List.cons_append, e]
      rw [← ih]
    · rw [List.takeWhile_cons_of_neg h]; rfl

theorem bandSp_flat {lo hi : Int} {c : List Sp} {m : List Rc} (h : ∀ r, m.head? = some r → sameRow lo hi r = false) : bandSp lo hi (c.map (mkR lo hi) ++ m) = c := by
  unfold bandSp
  induction c with
  | nil =>
    cases m with
    | nil => rfl
    | cons r m =>
      show ((r :: m).takeWhile _).map _ = []
      rw [List.takeWhile_cons_of_neg (by rw [h r rfl]; decide)]; rfl
  | cons s c ih =>
    rw [List.map_cons, List.cons_append, List.takeWhile_cons_of_pos (by simp [sameRow, mkR]), List.map_cons, ih]
    rfl

def HeadOk (bh : Int) (bs : List Sp) (bands : List Band) : Prop := ∀ b, bands.head? = some b → bh ≤ b.lo ∧ (bh = b.lo → bs ≠ b.c)

theorem vld_canon {bh : Int} {bs : List Sp} {l : List Rc} (h : Vld bh bs l) : (∀ r ∈ l, properR r) → ∃ bands, Canon bands ∧ l = flat bands ∧ HeadOk bh bs bands := by
  induction h with
  | nil => exact fun _ => ⟨[], ⟨⟨trivial, fun b hb => by cases hb⟩, fun b hb => by cases hb⟩, rfl, fun b hb => by cases hb⟩
  | cons bh bs r l h1 h2 h3 _ ih =>
    intro hp
    obtain ⟨bands, ⟨hc1, hc2⟩, hf, hh⟩ := ih fun x hx => hp x (List.mem_of_mem_drop hx)
    have hpr := hp r (by simp)
    have hne : firstSp (r :: l) ≠ [] := by
      simp [firstSp, bandSp, sameRow]
    have hs : ∀ s ∈ firstSp (r :: l), s.1 < s.2 := by
      intro s hs
      obtain ⟨x, hx, rfl⟩ := List.mem_map.1 hs
      exact (hp x ((List.takeWhile_prefix _).subset hx)).2.1
    refine ⟨⟨r.b, r.h, firstSp (r :: l)⟩ :: bands, ⟨⟨⟨hpr.2.2.2.2.1, ?_, hc1.1⟩, ?_⟩, ?_⟩, ?_, ?_⟩
    · intro b hb
      exact hh b hb
    · intro b hb
      rcases List.mem_cons.1 hb with rfl | hb
      · exact hne
      · exact hc1.2 b hb
    · intro b hb
      rcases List.mem_cons.1 hb with rfl | hb
      · exact sok_of h1 hs
      · exact hc2 b hb
    · rw [flat_cons, ← hf]
      exact bandSp_split r.b r.h (r :: l)
    · intro b hb
      cases hb
      exact ⟨by show bh ≤ r.b; omega, fun e e2 => h3 ⟨e, e2⟩⟩

theorem canon_vld : ∀ (bands : List Band) (bh : Int) (bs : List Sp), Canon bands → HeadOk bh bs bands → Vld bh bs (flat bands)
  | [], bh, bs, _, _ => Vld.nil bh bs
  | b :: bands, bh, bs, ⟨⟨h1, h2⟩, h3⟩, hh => by
    have hb := hh b rfl
    have hne := h2 b (by simp)
    have hfs : ∃ r l, flat (b :: bands) = r :: l ∧ r.b = b.lo ∧ r.h = b.hi := by
      rw [flat_cons]
      cases hc : b.c with
      | nil => exact absurd hc hne
      | cons s c => exact ⟨mkR b.lo b.hi s, _, rfl, rfl, rfl⟩
    obtain ⟨r, l, e, er1, er2⟩ := hfs
    have hbs : firstSp (r :: l) = b.c := by
      show bandSp r.b r.h (r :: l) = b.c
      rw [er1, er2, ← e, flat_cons]
      refine bandSp_flat fun x hx => ?_
      have : ∃ d ∈ bands, x.b = d.lo := by
        have hm := List.mem_of_mem_head? hx
        simp only [flat, List.mem_flatMap, List.mem_map] at hm
        obtain ⟨d, hd, s, _, rfl⟩ := hm
        exact ⟨d, hd, rfl⟩
      obtain ⟨d, hd, ex⟩ := this
      have h4 := h1.tail_low d hd
      have h5 := h1.1
      have h6 : x.b ≠ b.lo := by omega
      simp [sameRow, h6]
    rw [e]
    refine Vld.cons bh bs r l (by rw [hbs]; exact part_of (h3 b (by simp))) (by rw [er1]; omega) (by rw [er1, hbs]; exact fun h => hb.2 h.1 h.2) ?_
    rw [hbs, er2, ← e, flat_cons, List.drop_left' (by simp)]
    exact canon_vld bands b.hi b.c ⟨⟨h1.2.2, fun x hx => h2 x (List.mem_cons_of_mem _ hx)⟩, fun x hx => h3 x (List.mem_cons_of_mem _ hx)⟩ h1.2.1

theorem vld_iff {l : List Rc} (hp : ∀ r ∈ l, properR r) : Vld 0 [] l ↔ Canonical l := by
  constructor
  · intro h
    obtain ⟨bands, h1, h2, _⟩ := vld_canon h hp
    exact ⟨bands, h1, h2⟩
  · rintro ⟨bands, h1, rfl⟩
    refine canon_vld bands 0 [] h1 fun b hb => ?_
    have hm := List.mem_of_mem_head? hb
    have hne := h1.1.2 b hm
    refine ⟨?_, fun _ e => hne e.symm⟩
    cases hc : b.c with
    | nil => exact absurd hc hne
    | cons s c =>
      have := hp (mkR b.lo b.hi s) (by simp only [flat, List.mem_flatMap, List.mem_map]; exact ⟨b, hm, s, by rw [hc]; simp, rfl⟩)
      exact this.2.2.2.1

/-- A region is valid. -/
def ValidP (l : List Rc) : Prop := l.length ≤ 120 ∧ (∀ r ∈ l, properR r) ∧ Canonical l
end Go.Proofs.Ytkpmgdhaollheaa
