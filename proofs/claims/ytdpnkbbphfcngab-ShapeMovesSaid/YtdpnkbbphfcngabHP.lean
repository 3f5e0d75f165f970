/- Moved sets; how many rectangles a form in a square has, wherever it lies. -/
import Derived.Test.YtdpnkbbphfcngabHM
import Derived.Test.YtdpnkbbphfcngabGCnt
namespace Go.Proofs.Ytdpnkbbphfcngab
open Go.RowKit Go.Shelf

def moveR (dx dy : Int) (r : Rc) : Rc := ⟨r.l + dx, r.b + dy, r.r + dx, r.h + dy⟩
def shiftS (d : Int) (s : Sp) : Sp := (s.1 + d, s.2 + d)
def shiftB (dx dy : Int) (b : Band) : Band := ⟨b.lo + dy, b.hi + dy, b.c.map (shiftS dx)⟩

theorem rch_shift {γ δ : Type} (f : γ → δ) (hf : ∀ a b, f a = f b → a = b) (d : Int) : ∀ {l : List (Run γ)}, rch l → rch (l.map fun r => (⟨r.lo + d, r.hi + d, f r.c⟩ : Run δ))
  | [], _ => trivial
  | r :: rs, h => by
    refine ⟨?_, fun s hs => ?_, rch_shift f hf d h.2.2⟩
    · have := h.1
      show r.lo + d < r.hi + d
      omega
    · cases rs with
      | nil => cases hs
      | cons t rs =>
        cases hs
        obtain ⟨h1, h2⟩ := h.2.1 t rfl
        refine ⟨by show r.hi + d ≤ t.lo + d; omega, fun e hc => ?_⟩
        exact h2 (by have e' : r.hi + d = t.lo + d := e; omega) (hf _ _ hc)

theorem shiftS_inj (d : Int) : ∀ {s t : List Sp}, s.map (shiftS d) = t.map (shiftS d) → s = t
  | [], [], _ => rfl
  | [], _ :: _, h => by cases h
  | _ :: _, [], h => by cases h
  | p :: s, q :: t, h => by
    simp only [List.map_cons, List.cons.injEq, shiftS, Prod.mk.injEq] at h
    have e : p = q := Prod.ext (by omega) (by omega)
    rw [e, shiftS_inj d (s := s) (t := t) (by simpa [shiftS] using h.2)]

theorem sok_shift (d : Int) {s : List Sp} (h : sok s) : sok (s.map (shiftS d)) := by
  have := rch_shift id (fun _ _ e => e) d h
  unfold sok
  have e : runs (s.map (shiftS d)) = (runs s).map fun r => (⟨r.lo + d, r.hi + d, id r.c⟩ : Run Bool) := by
    simp [runs, shiftS, Function.comp_def]
  rw [e]
  exact this

theorem canonical_move (dx dy : Int) {l : List Rc} (h : Canonical l) : Canonical (l.map (moveR dx dy)) := by
  obtain ⟨bs, ⟨⟨h1, h2⟩, h3⟩, rfl⟩ := h
  refine ⟨bs.map (shiftB dx dy), ⟨⟨rch_shift (fun c => c.map (shiftS dx)) (fun _ _ e => shiftS_inj dx e) dy h1, fun b hb => ?_⟩, fun b hb => ?_⟩, ?_⟩
  · obtain ⟨b0, hb0, rfl⟩ := List.mem_map.1 hb
    have := h2 b0 hb0
    simpa [shiftB] using this
  · obtain ⟨b0, hb0, rfl⟩ := List.mem_map.1 hb
    exact sok_shift dx (h3 b0 hb0)
  · clear h1 h2 h3
    induction bs with
    | nil => rfl
    | cons b bs ih =>
      simp only [flat, List.flatMap_cons, List.map_cons, List.map_append] at ih ⊢
      rw [ih]
      simp [shiftB, shiftS, mkR, moveR, Function.comp_def]

theorem inside_move (dx dy : Int) (l : List Rc) (x y : Int) : insideB (l.map (moveR dx dy)) x y = insideB l (x - dx) (y - dy) := by
  rw [Bool.eq_iff_iff, inside_iffH, inside_iffH]
  constructor
  · rintro ⟨q, hq, h1, h2, h3, h4⟩
    obtain ⟨r, hr, rfl⟩ := List.mem_map.1 hq
    simp only [moveR] at h1 h2 h3 h4
    exact ⟨r, hr, by omega, by omega, by omega, by omega⟩
  · rintro ⟨r, hr, h1, h2, h3, h4⟩
    exact ⟨moveR dx dy r, List.mem_map.2 ⟨r, hr, rfl⟩, by simp only [moveR]; omega, by simp only [moveR]; omega, by simp only [moveR]; omega, by simp only [moveR]; omega⟩

theorem form_box {K : Int → Int → Bool} {l : List Rc} (h : CanonFor K l) {n : Nat} {a c : Int} (hn : ∀ x y, K x y = true → a ≤ x ∧ x < a + n ∧ c ≤ y ∧ y < c + n) : l.length ≤ n * n := by
  have hc := canonical_move (-a) (-c) h.canonical
  have := form_side hc.for (n := n) (fun x y hxy => by
    rw [inside_move, h.inside] at hxy
    have := hn _ _ hxy
    omega)
  rwa [List.length_map] at this

/-- A valid region in a square. -/
structure Bx (lo hi : Int) (l : List Rc) : Prop where
  ok : ValidP l
  side : ∀ x y, insideB l x y = true → lo ≤ x ∧ x < hi ∧ lo ≤ y ∧ y < hi
/-- .. whose squares are those of few rectangles. -/
structure Few (q : Nat) (lo hi : Int) (l : List Rc) : Prop extends Bx lo hi l where
  few : ∃ m : List Rc, m.length ≤ q ∧ Filled m ∧ ∀ x y, insideB m x y = insideB l x y

theorem proper_of_box {c : List Rc} {K : Int → Int → Bool} (hc : CanonFor K c) (h : ∀ x y, K x y = true → 0 ≤ x ∧ x < 16384 ∧ 0 ≤ y ∧ y < 16384) : ∀ q ∈ c, properR q := by
  intro q hq
  have := canon_box hc h q hq
  unfold properR
  omega

/-- Growing, where the result is known to have few rectangles. -/
theorem grow_ok {l out : List Rc} {k e lo hi : Int} (hb : Bx lo hi l) (hk : 0 ≤ k ∧ k ≤ 64) (hlo : 0 ≤ lo - k) (hhi : hi + k ≤ 16384) (hcnt : ∀ c, CanonFor (insideB (l.map fun r => clipR (growR k r))) c → c.length ≤ 120) (h : GrowR l k out e) :
    e = 0 ∧ Bx (lo - k) (hi + k) out ∧ ∀ x y, insideB out x y = true ↔ Near k (insideB l) x y := by
  have hset := grow_set hk.1 hb.ok
  rcases h with ⟨hc, h0, _⟩ | ⟨_, _, _, h⟩
  · rcases hc with ⟨hno, _⟩ | ⟨_, hno, _⟩ | ⟨_, _, _, rfl⟩
    · exact absurd hb.ok hno
    · exact absurd hk hno
    · exact absurd rfl h0
  · have hlen : (l.map fun r => clipR (growR k r)).length ≤ 120 := by rw [List.length_map]; exact hb.ok.1
    have hprop : allP (l.map fun r => clipR (growR k r)) = true := by
      rw [allP_iff]
      intro q hq
      obtain ⟨r, hr, rfl⟩ := List.mem_map.1 hq
      have := hb.ok.2.1 r hr
      unfold properR at this ⊢
      simp only [clipR, growR]
      omega
    rcases h with ⟨h1, _⟩ | ⟨_, h1, _⟩ | ⟨_, _, c, hc, hL⟩
    · omega
    · rw [hprop] at h1; cases h1
    · rcases hL with ⟨h2, _, _⟩ | ⟨_, rfl, rfl⟩
      · have := hcnt c hc; omega
      · have hiff : ∀ x y, insideB out x y = true ↔ Near k (insideB l) x y := fun x y => by
          rw [hc.inside, hset]
          constructor
          · exact fun h => h.2
          · intro hn
            obtain ⟨u, v, g1, g2, g3, g4, hi⟩ := hn
            have := hb.side u v hi
            exact ⟨by omega, u, v, g1, g2, g3, g4, hi⟩
        have hside : ∀ x y, insideB out x y = true → lo - k ≤ x ∧ x < hi + k ∧ lo - k ≤ y ∧ y < hi + k := fun x y hxy => by
          obtain ⟨u, v, g1, g2, g3, g4, hi⟩ := (hiff x y).1 hxy
          have := hb.side u v hi
          omega
        exact ⟨rfl, ⟨⟨hcnt _ hc, proper_of_box hc (fun x y hxy => by have := hside x y (by rw [hc.inside]; exact hxy); omega), hc.canonical⟩, hside⟩, hiff⟩

theorem few_grow {q : Nat} {l out : List Rc} {k e lo hi : Int} (hb : Few q lo hi l) (hq : q ≤ 7) (hk : 0 ≤ k ∧ k ≤ 64) (hlo : 0 ≤ lo - k) (hhi : hi + k ≤ 16384) (h : GrowR l k out e) :
    e = 0 ∧ Few q (lo - k) (hi + k) out ∧ ∀ x y, insideB out x y = true ↔ Near k (insideB l) x y := by
  obtain ⟨m, hm1, hm2, hm3⟩ := hb.few
  have hset := grow_set hk.1 hb.ok
  have hfun : insideB m = insideB l := funext fun x => funext fun y => hm3 x y
  have hsame : ∀ x y, insideB (m.map (growR k)) x y = insideB (l.map fun r => clipR (growR k r)) x y := fun x y => by
    rw [Bool.eq_iff_iff, hset, near_grown hk.1 hm2, hfun]
    constructor
    · intro hn
      obtain ⟨u, v, g1, g2, g3, g4, hi⟩ := hn
      have := hb.side u v hi
      exact ⟨by omega, u, v, g1, g2, g3, g4, hi⟩
    · exact fun h => h.2
  obtain ⟨h1, h2, h3⟩ := grow_ok hb.toBx hk hlo hhi (fun c hc => by
    have h1 := form_few (m := m.map (growR k)) (canonFor_congr hc fun x y => (hsame x y).symm)
    rw [List.length_map] at h1
    have h2 : 2 * m.length * m.length ≤ 2 * 7 * 7 := Nat.mul_le_mul (by omega) (by omega)
    omega) h
  refine ⟨h1, ⟨h2, m.map (growR k), by rw [List.length_map]; exact hm1, fun r hr => ?_, fun x y => ?_⟩, h3⟩
  · obtain ⟨r0, hr0, rfl⟩ := List.mem_map.1 hr
    have := hm2 r0 hr0
    simp only [growR]
    omega
  · rw [Bool.eq_iff_iff, h3, near_grown hk.1 hm2, hfun]

theorem box_grow {l out : List Rc} {k e lo hi : Int} (hb : Bx lo hi l) (hs : hi - lo + 2 * k ≤ 10) (hk : 0 ≤ k ∧ k ≤ 64) (hlo : 0 ≤ lo - k) (hhi : hi + k ≤ 16384) (h : GrowR l k out e) :
    e = 0 ∧ Bx (lo - k) (hi + k) out ∧ ∀ x y, insideB out x y = true ↔ Near k (insideB l) x y :=
  grow_ok hb hk hlo hhi (fun c hc => by
    have := form_box hc (n := 10) (a := lo - k) (c := lo - k) (fun x y hxy => by
      obtain ⟨_, u, v, g1, g2, g3, g4, hi⟩ := (grow_set hk.1 hb.ok x y).1 hxy
      have := hb.side u v hi
      omega)
    omega) h

theorem box_shrink {l out : List Rc} {k e lo hi : Int} (hb : Bx lo hi l) (hs : hi - lo - 2 * k ≤ 10) (hlo : 0 ≤ lo) (hhi : hi ≤ 16384) (hk : 0 ≤ k ∧ k ≤ 64) (h : ShrinkR l k out e) :
    e = 0 ∧ Bx (lo + k) (hi - k) out ∧ ∀ x y, insideB out x y = true ↔ ∀ u v, x - k ≤ u → u ≤ x + k → y - k ≤ v → v ≤ y + k → insideB l u v = true := by
  rcases h with ⟨hc, h0, _⟩ | ⟨_, _, _, m, c, hm, hc, hL⟩
  · rcases hc with ⟨hno, _⟩ | ⟨_, hno, _⟩ | ⟨_, _, _, rfl⟩
    · exact absurd hb.ok hno
    · exact absurd hk hno
    · exact absurd rfl h0
  · have hset := shrink_set hk.1 hb.ok hm
    have hside : ∀ x y, (insideB l x y && !insideB (m.map (growR k)) x y) = true → lo + k ≤ x ∧ x < hi - k ∧ lo + k ≤ y ∧ y < hi - k := fun x y hxy => by
      have h1 := (hset x y).1 hxy
      have a1 := hb.side _ _ (h1 (x - k) (y - k) (by omega) (by omega) (by omega) (by omega))
      have a2 := hb.side _ _ (h1 (x + k) (y + k) (by omega) (by omega) (by omega) (by omega))
      omega
    have hlen := form_box hc (n := 10) (a := lo + k) (c := lo + k) (fun x y hxy => by have := hside x y hxy; omega)
    rcases hL with ⟨h2, _, _⟩ | ⟨_, rfl, rfl⟩
    · omega
    · exact ⟨rfl, ⟨⟨by omega, proper_of_box hc (fun x y hxy => by have := hside x y hxy; omega), hc.canonical⟩, fun x y hxy => hside x y (by rw [hc.inside] at hxy; exact hxy)⟩, fun x y => by rw [hc.inside]; exact hset x y⟩

/-- Near what is near. -/
theorem near_near {k m : Int} (hk : 0 ≤ k) (hm : 0 ≤ m) {F G : Int → Int → Bool} (h : ∀ x y, G x y = true ↔ Near k F x y) (x y : Int) : Near m G x y ↔ Near (k + m) F x y := by
  constructor
  · rintro ⟨u, v, a, b, c, d, hg⟩
    obtain ⟨p, q, a', b', c', d', hf⟩ := (h u v).1 hg
    exact ⟨p, q, by omega, by omega, by omega, by omega, hf⟩
  · rintro ⟨p, q, a, b, c, d, hf⟩
    refine ⟨max (x - m) (min (x + m) p), max (y - m) (min (y + m) q), by omega, by omega, by omega, by omega, ?_⟩
    exact (h _ _).2 ⟨p, q, by omega, by omega, by omega, by omega, hf⟩
end Go.Proofs.Ytdpnkbbphfcngab
