/- slices.Equal of spans; continues. -/
import Derived.Test.YtkpmgdhaollheaaGG
import Derived.Deep.RegionHeld3
import Derived.Laws.StructEq
namespace Go.Proofs.Ytkpmgdhaollheaa
open Go.RowKit Go.Shelf

/-- Rows that can be read. -/
def RowRd {α : Type} [Inhabited α] (w : World) (k : Nat) (enc : α → List Value) (v : Value) (l : List α) : Prop :=
  ∃ p cap, v = .slice p l.length cap ∧ ∀ j, j < l.length → ∃ b o, p = some ⟨b, o, none⟩ ∧ ∀ i u, (enc l[j]!)[i]? = some u → w.cell? ⟨b, o + j * k + i, none⟩ = some u

theorem OwnAt.rd {α : Type} [Inhabited α] {w : World} {B : Nat} {e : TypeId} {k : Nat} {enc : α → List Value} {v : Value} {l : List α} (h : OwnAt w B e k enc v l) (hk : ∀ x, (enc x).length = k) : RowRd w k enc v l := by
  by_cases h0 : 0 < l.length
  · obtain ⟨g, cap, rfl, _⟩ := h.form h0
    exact ⟨_, cap, rfl, fun j hj => ⟨g, 0, rfl, fun i u hu => by rw [Nat.zero_add]; exact h.cell hk rfl hj hu⟩⟩
  · obtain ⟨p, cap, rfl⟩ := h.shape
    exact ⟨p, cap, rfl, fun j hj => absurd (Nat.lt_of_le_of_lt (Nat.zero_le _) hj) h0⟩

theorem RowRd.below {α : Type} [Inhabited α] {w w' : World} {k : Nat} {enc : α → List Value} {v : Value} {l : List α} (h : RowRd w k enc v l) (hb : Below w.heap.size w w') : RowRd w' k enc v l := by
  obtain ⟨p, cap, rfl, h⟩ := h
  refine ⟨p, cap, rfl, fun j hj => ?_⟩
  obtain ⟨b, o, rfl, hc⟩ := h j hj
  exact ⟨b, o, rfl, fun i u hu => cell_keep hb (hc i u hu)⟩

def encR (r : Rc) : List Value := [.int .i64 r.l, .int .i64 r.b, .int .i64 r.r, .int .i64 r.h]
theorem RectsAt.rd {w : World} {v : Value} {l : List Rc} (h : RectsAt w v l) : RowRd w 4 encR v l := by
  obtain ⟨p, cap, rfl, _, _, h⟩ := h
  refine ⟨p, cap, rfl, fun j hj => ?_⟩
  obtain ⟨b, o, rfl, _, c0, c1, c2, c3⟩ := h j hj
  refine ⟨b, o, rfl, fun i u hu => ?_⟩
  generalize l[j]! = r at *
  match i, hu with
  | 0, hu => cases hu; exact c0
  | 1, hu => cases hu; exact c1
  | 2, hu => cases hu; exact c2
  | 3, hu => cases hu; exact c3
  | i + 4, hu => simp [encR] at hu

theorem neqS : NeqAt Try.prog 116 (fun x : Sp => .agg (encS x).toArray) (fun x y => decide (x = y)) := by
  refine ⟨fun x y w => ?_, GuardAt.agg _ (by kernel_rfl)⟩
  have u3 := Try.underlying3
  have a3 := Try.isAgg3
  have z3 := Try.sizeOf3
  have hS : Try.prog.underlying 116 = some (.struct (Try.prog.fieldsOf 116)) := by kernel_rfl
  have hp : Try.prog.stoodInHeld 116 = false := by kernel_rfl
  simp only [encS]
  rw [run_neq_struct, show (10000 : Nat) = 9999 + 1 from rfl, run_equalIn_agg w 9999 116 _ _ hS hp]
  simp only [Program.fieldsOf, Try.underlying116]
  go_simp
  by_cases h1 : x.fst = y.fst <;> by_cases h2 : x.snd = y.snd <;> simp [h1, h2, Prod.ext_iff]

instance : DecidableEq Rc := fun p q => decidable_of_iff (p.l = q.l ∧ p.b = q.b ∧ p.r = q.r ∧ p.h = q.h) ⟨fun ⟨a, b, c, d⟩ => Rc.ext' a b c d, fun e => by subst e; exact ⟨rfl, rfl, rfl, rfl⟩⟩
theorem Rc.eq_iff {p q : Rc} : p = q ↔ p.l = q.l ∧ p.b = q.b ∧ p.r = q.r ∧ p.h = q.h := ⟨fun e => by subst e; exact ⟨rfl, rfl, rfl, rfl⟩, fun ⟨a, b, c, d⟩ => Rc.ext' a b c d⟩

theorem neqR : NeqAt Try.prog 39 (fun x : Rc => .agg (encR x).toArray) (fun x y => decide (x = y)) := by
  refine ⟨fun x y w => ?_, GuardAt.agg _ (by kernel_rfl)⟩
  have u3 := Try.underlying3
  have a3 := Try.isAgg3
  have z3 := Try.sizeOf3
  have hS : Try.prog.underlying 39 = some (.struct (Try.prog.fieldsOf 39)) := by kernel_rfl
  have hp : Try.prog.stoodInHeld 39 = false := by kernel_rfl
  simp only [encR]
  rw [run_neq_struct, show (10000 : Nat) = 9999 + 1 from rfl, run_equalIn_agg w 9999 39 _ _ hS hp]
  simp only [Program.fieldsOf, Try.underlying39]
  go_simp
  by_cases h1 : x.l = y.l <;> by_cases h2 : x.b = y.b <;> by_cases h3 : x.r = y.r <;> by_cases h4 : x.h = y.h <;> simp [h1, h2, h3, h4, Rc.eq_iff]

theorem allEq_dec {α : Type} [DecidableEq α] (l m : List α) : Lib.allEq (fun x y => decide (x = y)) l m = decide (l = m) := by
  induction l generalizing m with
  | nil => cases m <;> simp [Lib.allEq]
  | cons x l ih =>
    cases m with
    | nil => simp [Lib.allEq]
    | cons y m =>
      simp only [Lib.allEq, ih]
      by_cases h1 : x = y <;> by_cases h2 : l = m <;> simp [h1, h2]

set_option maxHeartbeats 1000000 in
set_option maxRecDepth 100000 in
theorem equalS_any (v1 v2 : Value) (l m : List Sp) (w : World) (h1 : RowRd w 2 encS v1 l) (h2 : RowRd w 2 encS v2 m) (hl : l.length ≤ 200000000000) (hm : m.length ≤ 200000000000) :
    Calls Try.prog 95 #[v1, v2] w fun e w' => e = .returned (.bool (decide (l = m))) ∧ ∃ q, w' = w.drewN q := by
  obtain ⟨p1, c1, rfl, h1⟩ := h1
  obtain ⟨p2, c2, rfl, h2⟩ := h2
  by_cases hlen : l.length = m.length
  · by_cases h0 : l.length = 0
    · have e1 : l = [] := List.eq_nil_of_length_eq_zero h0
      have e2 : m = [] := List.eq_nil_of_length_eq_zero (by omega)
      subst e1 e2
      simp only [List.length_nil]
      clear h1 h2
      go_enter Try.func95, Try.ntmps95
      go_wp2
      go_loopw [13] (fun i wr => i = .int .i64 0 ∧ w = wr) (fun _ _ => 0)
      case atStart => exact ⟨rfl, rfl⟩
      case round =>
        obtain ⟨rfl, rfl⟩ := hrel
        go_wp2
        go_ret
        exact ⟨by simp, 0, rfl⟩
    · obtain ⟨b1, o1, rfl, _⟩ := h1 0 (by omega)
      obtain ⟨b2, o2, rfl, _⟩ := h2 0 (by omega)
      have := AnyQ.slices_Equal Try.equalS 2 Try.isAgg116 Try.sizeOf116 encS (fun _ => rfl) _ neqS b1 o1 l.length c1 b2 o2 m.length c2 l m w (Nat.le_refl _) (Nat.le_refl _) (by omega) (by omega)
        (fun j hj i u hu => by obtain ⟨b, o, e, hc⟩ := h1 j hj; cases e; exact hc i u hu) (fun j hj i u hu => by obtain ⟨b, o, e, hc⟩ := h2 j hj; cases e; exact hc i u hu)
      rw [List.take_of_length_le (Nat.le_refl _), List.take_of_length_le (Nat.le_refl _), allEq_dec] at this
      exact this
  · have e : decide (l = m) = false := decide_eq_false fun e => hlen (by rw [e])
    rw [e]
    generalize l.length = n at *
    generalize m.length = k at *
    have hne : ((n : Int) == (k : Int)) = false := beq_eq_false_iff_ne.2 (by omega)
    have hne2 : (n : Int) ≠ (k : Int) := by omega
    clear h1 h2 e
    go_enter Try.func95, Try.ntmps95
    go_wp2
    go_ret
    exact ⟨rfl, 0, rfl⟩

/-- A band in memory: its rows, and the slice of its spans. -/
structure BB where
  lo : Int
  hi : Int
  v : Value
  c : List Sp
instance : Inhabited BB := ⟨⟨0, 0, .slice none 0 0, []⟩⟩
def BB.band (b : BB) : Band := ⟨b.lo, b.hi, b.c⟩
def encB (b : BB) : List Value := [.int .i64 b.lo, .int .i64 b.hi, b.v]
theorem encB_len (b : BB) : (encB b).length = 3 := rfl

set_option maxHeartbeats 1000000 in
set_option maxRecDepth 100000 in
theorem continues_any (a b : BB) (w : World) (h1 : RowRd w 2 encS a.v a.c) (h2 : RowRd w 2 encS b.v b.c) (hl : a.c.length ≤ 200000000000) (hm : b.c.length ≤ 200000000000) :
    Calls Try.prog 81 #[.agg #[.int .i64 a.lo, .int .i64 a.hi, a.v], .agg #[.int .i64 b.lo, .int .i64 b.hi, b.v]] w fun e w' => e = .returned (.bool (decide (a.hi = b.lo ∧ a.c = b.c))) ∧ Below w.heap.size w w' := by
  obtain ⟨alo, ahi, av, ac⟩ := a
  obtain ⟨blo, bhi, bv, bc⟩ := b
  have HQ := Lib.hid (fun (w' : World) (h : Below w.heap.size w w') => equalS_any av bv ac bc w' (h1.below h) (h2.below h) hl hm)
  obtain ⟨p1, k1, e1, _⟩ := h1
  obtain ⟨p2, k2, e2, _⟩ := h2
  dsimp only at e1 e2 HQ ⊢
  by_cases h : ahi = blo
  · subst h
    have hres : decide (ahi = ahi ∧ ac = bc) = decide (ac = bc) := by simp
    rw [hres]
    generalize decide (ac = bc) = r at HQ ⊢
    rw [e1, e2] at HQ
    subst e1 e2
    clear hres
    have HQ2 := Lib.hid (HQ.out _ (((Below.refl _ _).alloc (Nat.le_refl _) (.cells #[.int .i64 alo, .int .i64 ahi, .slice p1 ac.length k1] 99)).alloc (by simp) (.cells #[.int .i64 ahi, .int .i64 bhi, .slice p2 bc.length k2] 99)))
    cases r
    · go_enter Try.func81, Try.ntmps81
      go_wp2_with (go_at_call 95; refine HQ2.out.mono ?_; rintro e w1 ⟨rfl, q, rfl⟩)
      go_ret
      exact ⟨rfl, below_drewN (((Below.refl _ _).alloc (Nat.le_refl _) _).alloc (by simp) _) q⟩
    · go_enter Try.func81, Try.ntmps81
      go_wp2_with (go_at_call 95; refine HQ2.out.mono ?_; rintro e w1 ⟨rfl, q, rfl⟩)
      go_ret
      exact ⟨rfl, below_drewN (((Below.refl _ _).alloc (Nat.le_refl _) _).alloc (by simp) _) q⟩
  · have hne : (ahi == blo) = false := beq_eq_false_iff_ne.2 h
    go_enter Try.func81, Try.ntmps81
    go_wp2
    go_ret
    exact ⟨ret_bool (by simp [h]), ((Below.refl _ _).alloc (Nat.le_refl _) _).alloc (by simp) _⟩
end Go.Proofs.Ytkpmgdhaollheaa
