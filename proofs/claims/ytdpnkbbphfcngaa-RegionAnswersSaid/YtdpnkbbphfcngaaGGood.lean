/- Regions that lie in a small square: what union, both, without, areas and the other functions give. -/
import Derived.Test.YtdpnkbbphfcngaaGZ
import Derived.Test.YtdpnkbbphfcngaaGCom
namespace Go.Proofs.Ytdpnkbbphfcngaa
open Go.RowKit Go.Shelf

theorem RectsAt.but {w w' : World} {v : Value} {l : List Rc} {row : Option Nat} (h : RectsAt w v l) (hg : w.grownBy w' row) (hv : ∀ k, v.ownBlock = some k → row ≠ some k) : RectsAt w' v l := by
  obtain ⟨p, cap, rfl, hm, hcp, h⟩ := h
  refine ⟨p, cap, rfl, hm, hcp, fun j hj => ?_⟩
  obtain ⟨b, off, rfl, hlt, hc⟩ := h j hj
  have hk : w'.heap[b]? = w.heap[b]? := hg.block b hlt (fun e => hv b rfl e.symm)
  have key : ∀ o, w'.cell? ⟨b, o, none⟩ = w.cell? ⟨b, o, none⟩ := fun o => by simp [World.cell?, hk]
  refine ⟨b, off, rfl, Nat.lt_of_lt_of_le hlt hg.size, ?_⟩
  obtain ⟨c0, c1, c2, c3⟩ := hc
  exact ⟨(key _).trans c0, (key _).trans c1, (key _).trans c2, (key _).trans c3⟩

/-- A valid region in a square of side n. -/
structure Good (n : Nat) (l : List Rc) : Prop where
  can : Canonical l
  ok : ∀ r ∈ l, properR r
  len : l.length ≤ 120
  side : ∀ x y, insideB l x y = true → 0 ≤ x ∧ x < (n : Int) ∧ 0 ≤ y ∧ y < (n : Int)

theorem Good.valid {n : Nat} {l : List Rc} (h : Good n l) : ValidP l := ⟨h.len, h.ok, h.can⟩
theorem inside_iff {l : List Rc} {x y : Int} : insideB l x y = true ↔ ∃ r ∈ l, insR r x y = true := by rw [insideB, List.any_eq_true]
theorem canonical_nil : Canonical ([] : List Rc) := ⟨[], ⟨⟨trivial, fun r hr => by cases hr⟩, fun r hr => by cases hr⟩, rfl⟩
theorem Good.nil (n : Nat) : Good n [] := ⟨canonical_nil, (fun r hr => by cases hr), by simp, fun x y h => by cases h⟩

/-- A form of squares that lie in a square is good. -/
theorem form_good {K : Int → Int → Bool} {l : List Rc} (h : CanonFor K l) {n : Nat} (hK : ∀ x y, K x y = true → 0 ≤ x ∧ x < (n : Int) ∧ 0 ≤ y ∧ y < (n : Int)) (h1 : n * n ≤ 120) (h2 : n ≤ 16384) : Good n l := by
  refine ⟨h.canonical, fun q hq => ?_, Nat.le_trans (form_side h hK) h1, fun x y hxy => hK x y (by rw [← h.inside]; exact hxy)⟩
  obtain ⟨a, b⟩ := canonical_up h.canonical q hq
  have c1 := hK q.l q.b (by rw [← h.inside]; exact inside_iff.2 ⟨q, hq, insR_iff.2 ⟨Int.le_refl _, a, Int.le_refl _, b⟩⟩)
  have c2 := hK (q.r - 1) (q.h - 1) (by rw [← h.inside]; exact inside_iff.2 ⟨q, hq, insR_iff.2 ⟨by omega, by omega, by omega, by omega⟩⟩)
  exact ⟨c1.1, a, by omega, c1.2.2.1, b, by omega⟩

theorem drawn_good {w w' : World} {tb : Nat} {n : Nat} {most : Nat} {v : Value} {l : List Rc} (h : Drawn w w' tb n most v l) (h1 : n * n ≤ 120) : Good n l := by
  obtain ⟨m, e, hlen, hin, hof⟩ := h.of
  have hn : n ≤ 120 := Nat.le_trans (Nat.le_mul_self n) h1
  rcases hof with ⟨_, rfl, _⟩ | ⟨_, _, rfl, _⟩ | ⟨_, hp, c, hc, hL⟩
  · exact Good.nil n
  · exact Good.nil n
  · rcases hL with ⟨_, rfl, _⟩ | ⟨_, rfl, _⟩
    · exact Good.nil n
    · refine form_good hc (fun x y hxy => ?_) h1 (by omega)
      obtain ⟨r, hr, hi⟩ := inside_iff.1 hxy
      have := insR_iff.1 hi
      obtain ⟨a, b, c, d, e, f⟩ := hin r hr
      omega

theorem comb_good {k : Bool → Bool → Bool} (hk : k false false = false) {n : Nat} (h1 : n * n ≤ 120) {a b out : List Rc} {e : Int} (ha : Good n a) (hb : Good n b) (h : CombR k a b out e) :
    e = 0 ∧ Good n out ∧ ∀ x y, insideB out x y = k (insideB a x y) (insideB b x y) := by
  have hn : n ≤ 120 := Nat.le_trans (Nat.le_mul_self n) h1
  rcases h with ⟨hno, _, _⟩ | ⟨_, _, c, hc, hL⟩
  · exact absurd ⟨ha.valid, hb.valid⟩ hno
  · have hg : Good n c := form_good hc (fun x y hxy => by
      cases e1 : insideB a x y
      · cases e2 : insideB b x y
        · rw [e1, e2, hk] at hxy; cases hxy
        · exact hb.side x y e2
      · exact ha.side x y e1) h1 (by omega)
    rcases hL with ⟨h2, _, _⟩ | ⟨_, rfl, rfl⟩
    · have := hg.len; omega
    · exact ⟨rfl, hg, fun x y => hc.inside x y⟩

theorem Good.ext {n m : Nat} {a b : List Rc} (ha : Good n a) (hb : Good m b) (h : ∀ x y, insideB a x y = insideB b x y) : a = b := canonical_ext ha.can hb.can h

theorem Good.area {n : Nat} {a : List Rc} (ha : Good n a) : areaL a = cnt 16384 (insideB a) := sum_area ha.can.apart ha.ok
theorem comL_cnt {n m : Nat} {a b : List Rc} (ha : Good n a) (hb : Good m b) : comL a b = cnt 16384 (fun x y => insideB a x y && insideB b x y) := sum_meet ha.can.apart hb.can.apart ha.ok

/-- All squares of a are squares of b. -/
def Sub (a b : List Rc) : Prop := ∀ x y, insideB a x y = true → insideB b x y = true

theorem Good.grid {n : Nat} {a : List Rc} (ha : Good n a) {x y : Int} (h : insideB a x y = true) : 0 ≤ x ∧ x < 16384 ∧ 0 ≤ y ∧ y < 16384 := by
  obtain ⟨r, hr, hi⟩ := inside_iff.1 h
  have := insR_iff.1 hi
  obtain ⟨a, b, c, d, e, f⟩ := ha.ok r hr
  omega

theorem sub_cnt {n m : Nat} {a b : List Rc} (ha : Good n a) (hb : Good m b) : comL a b = areaL a ↔ Sub a b := by
  rw [comL_cnt ha hb, ha.area, cnt_less (insideB a) (insideB b)]
  constructor
  · intro h x y hx
    have h0 : cnt 16384 (fun x y => insideB a x y && !insideB b x y) = 0 := by omega
    obtain ⟨g1, g2, g3, g4⟩ := ha.grid hx
    have := cnt_zero.1 h0 x y g1 g2 g3 g4
    rw [hx] at this
    cases e : insideB b x y
    · rw [e] at this; cases this
    · rfl
  · intro h
    have h0 : cnt 16384 (fun x y => insideB a x y && !insideB b x y) = 0 := cnt_zero.2 fun x y _ _ _ _ => by
      cases e : insideB a x y
      · rfl
      · rw [h x y e]; rfl
    omega
theorem area_none {n : Nat} {a : List Rc} (ha : Good n a) : areaL a = 0 ↔ ∀ x y, insideB a x y = false := by
  rw [ha.area, cnt_zero]
  constructor
  · intro h x y
    cases e : insideB a x y
    · rfl
    · obtain ⟨g1, g2, g3, g4⟩ := ha.grid e
      rw [h x y g1 g2 g3 g4] at e; cases e
  · intro h x y _ _ _ _
    exact h x y
theorem Good.area_nonneg {n : Nat} {a : List Rc} (ha : Good n a) : 0 ≤ areaL a := by rw [ha.area]; exact cnt_nonneg ..
theorem comL_nonneg {n m : Nat} {a b : List Rc} (ha : Good n a) (hb : Good m b) : 0 ≤ comL a b := by rw [comL_cnt ha hb]; exact cnt_nonneg ..

/-- Nothing is left of a without b exactly if a lies within b. -/
theorem sub_without {n : Nat} {a b r : List Rc} (hr : Good n r) (h : ∀ x y, insideB r x y = (insideB a x y && !insideB b x y)) : areaL r = 0 ↔ Sub a b := by
  rw [area_none hr]
  constructor
  · intro h0 x y hx
    have := h0 x y
    rw [h, hx] at this
    cases e : insideB b x y
    · rw [e] at this; cases this
    · rfl
  · intro h0 x y
    rw [h]
    cases e : insideB a x y
    · rfl
    · rw [h0 x y e]; rfl
theorem sub_union {n m : Nat} {a b u : List Rc} (hb : Good n b) (hu : Good m u) (h : ∀ x y, insideB u x y = (insideB a x y || insideB b x y)) : u = b ↔ Sub a b := by
  constructor
  · rintro rfl x y hx
    rw [h, hx]; rfl
  · intro h0
    refine hu.ext hb fun x y => ?_
    rw [h]
    cases e : insideB a x y
    · rfl
    · rw [h0 x y e]; rfl
theorem both_area {n m k : Nat} {a b s : List Rc} (ha : Good n a) (hb : Good m b) (hs : Good k s) (h : ∀ x y, insideB s x y = (insideB a x y && insideB b x y)) : areaL s = comL a b := by
  rw [comL_cnt ha hb, hs.area]
  exact cnt_congr fun x y _ _ _ _ => h x y
theorem union_area {n m k j : Nat} {a b u s : List Rc} (ha : Good n a) (hb : Good m b) (hu : Good j u) (hs : Good k s) (h : ∀ x y, insideB u x y = (insideB a x y || insideB b x y)) (h' : ∀ x y, insideB s x y = (insideB a x y && insideB b x y)) : areaL a + areaL b = areaL u + areaL s := by
  rw [ha.area, hb.area, hu.area, hs.area, cnt_congr (K := insideB u) (fun x y _ _ _ _ => h x y), cnt_congr (K := insideB s) (fun x y _ _ _ _ => h' x y)]
  exact cnt_both _ _
end Go.Proofs.Ytdpnkbbphfcngaa
