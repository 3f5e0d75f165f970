/- slices.rotateCmpFunc at ints. -/
import Derived.Test.YtdiogfjbjdiclaaSym
import Derived.Lib.Hide
namespace Go.Proofs.Ytdiogfjbjdiclaa
open Go.RowKit Go.Sort Go.Shelf Go.Lib
variable {α : Type} [Inhabited α] {enc : α → Value} {w0 : World} {blk off : Nat} {d0 : Array α}

theorem get_at (d : Array α) {p q : Nat} (h : p = q) : d[p]! = d[q]! := by rw [h]

theorem rot_left {d d' : Array α} {m i j : Nat} (hij : j < i) (him : i ≤ m) (hj : m + j ≤ d.size) (h : RotTo (swpN d (m - i) m j) d' (m - (i - j)) m (m + j)) : RotTo d d' (m - i) m (m + j) := by
  obtain ⟨g1, g2, g3⟩ := get_swpN d (m - i) m j (by omega) hj
  obtain ⟨h0, h1, h2, h3⟩ := h
  refine ⟨by rw [h0, size_swpN], fun p hp => ?_, fun p hp1 hp2 => ?_, fun p hp1 hp2 => ?_⟩
  · rw [h1 p (by omega), g3 p (by omega) (by omega)]
  · rw [h1 p (by omega), g1 p (by omega) (by omega)]
    exact get_at d (by omega)
  · by_cases c : p < m - (i - j) + (m + j - m)
    · rw [h2 p (by omega) c, g2 _ (by omega) (by omega)]
      exact get_at d (by omega)
    · rw [h3 p (by omega) hp2, g3 _ (by omega) (by omega)]

theorem rot_right {d d' : Array α} {m i j : Nat} (hij : i < j) (him : i ≤ m) (hj : m + j ≤ d.size) (h : RotTo (swpN d (m - i) (m + j - i) i) d' (m - i) m (m + (j - i))) : RotTo d d' (m - i) m (m + j) := by
  obtain ⟨g1, g2, g3⟩ := get_swpN d (m - i) (m + j - i) i (by omega) (by omega)
  obtain ⟨h0, h1, h2, h3⟩ := h
  refine ⟨by rw [h0, size_swpN], fun p hp => ?_, fun p hp1 hp2 => ?_, fun p hp1 hp2 => ?_⟩
  · rw [h1 p (by omega), g3 p (by omega) (by omega)]
  · by_cases c : p < m - i + (m + (j - i) - m)
    · rw [h2 p hp1 c, g3 _ (by omega) (by omega)]
    · rw [h3 p (by omega) (by omega), g1 _ (by omega) (by omega)]
      exact get_at d (by omega)
  · rw [h1 p (by omega), g2 p (by omega) (by omega)]
    exact get_at d (by omega)

theorem rot_end {d : Array α} {m i : Nat} (him : i ≤ m) (hj : m + i ≤ d.size) : RotTo d (swpN d (m - i) m i) (m - i) m (m + i) := by
  obtain ⟨g1, g2, g3⟩ := get_swpN d (m - i) m i (by omega) hj
  refine ⟨size_swpN .., fun p hp => g3 p (by omega) (by omega), fun p hp1 hp2 => ?_, fun p hp1 hp2 => ?_⟩
  · rw [g1 p hp1 (by omega)]
    exact get_at d (by omega)
  · rw [g2 p (by omega) (by omega)]
    exact get_at d (by omega)

set_option maxHeartbeats 1000000 in
theorem rotate_any (R : Row1 enc w0 blk off d0) (cap a m b : Nat) (d : Array α) (w : World) (fv : Value) (hs : d.size = d0.size) (S : SW enc w0 blk off d w) (ham : a < m) (hmb : m < b) (hb : b ≤ d.size) (hsz : d.size < 4611686018427387904) (Q : World → Prop)
    (hQ : ∀ d' w', RotTo d d' a m b → SW enc w0 blk off d' w' → Q w') :
    Calls Try.prog 47 #[.slice (some ⟨blk, off, none⟩) d.size cap, .int .i64 a, .int .i64 m, .int .i64 b, fv] w fun e w' => e = .returned (.tuple #[]) ∧ Q w' := by
  have HS0 : Aside (SW enc w0 blk off d w) := S
  have HQ := Lib.hid hQ
  have HR : Aside (Row1 enc w0 blk off d0) := R
  clear S hQ R
  generalize hn : d.size = n at *
  have HN := Lib.hid hn
  have HS := Lib.hid hs
  clear hn hs
  go_enter Try.func47, Try.ntmps47
  go_wp2
  go_loopg [10, 11] (b - a) (fun g vi vj wr => ∃ (i j : Nat) (dk : Array α), vi = .int .i64 i ∧ vj = .int .i64 j ∧ 0 < i ∧ 0 < j ∧ a + i ≤ m ∧ m + j ≤ b ∧ i + j ≤ g ∧ Hid (dk.size = n) ∧ Aside (SW enc w0 blk off dk wr) ∧ Aside (∀ d', RotTo dk d' (m - i) m (m + j) → RotTo d d' a m b))
  case atStart => exact ⟨m - a, b - m, d, by go_num, by go_num, by omega, by omega, by omega, by omega, by omega, HN, HS0, fun d' h => by
    have e1 : m - (m - a) = a := by omega
    have e2 : m + (b - m) = b := by omega
    rw [e1, e2] at h; exact h⟩
  case round =>
    clear HS0
    obtain ⟨i, j, dk, rfl, rfl, hi0, hj0, him, hjb, hg, HSK, S1, HRT⟩ := hrel
    rcases Nat.lt_trichotomy i j with hlt | heq | hgt
    · have hne : ((i : Int) != (j : Int)) = true := by rw [bne_iff_ne]; omega
      have hc := fun w S => swapRange_any (enc := enc) (w0 := w0) (blk := blk) (off := off) (d0 := d0) HR.out cap (m - i) (m + j - i) i dk w fv (HSK.out.trans HS.out) S (by omega) (by rw [HSK.out]; omega) (by rw [HSK.out]; omega)
      rw [HSK.out] at hc
      have e1 : ((m - i : Nat) : Int) = (m : Int) - (i : Int) := by omega
      have e2 : ((m + j - i : Nat) : Int) = (m : Int) + (j : Int) - (i : Int) := by omega
      rw [e1, e2] at hc
      have HC : Aside _ := hc
      clear hc e1 e2
      go_wp2_with (go_at_call 48; (with_reducible refine (HC.out _ S1.out).mono ?_); rintro e w' ⟨rfl, hS⟩)
      have HS2 : Aside _ := hS
      clear hS
      go_roundg (i + (j - i))
      case measure => omega
      case rel => exact ⟨i, j - i, swpN dk (m - i) (m + j - i) i, rfl, by go_num, hi0, by omega, him, by omega, Nat.le_refl _, (show _ = _ from (size_swpN ..).trans HSK.out), HS2, fun d' h => HRT.out d' (rot_right hlt (by omega) (by rw [HSK.out]; omega) h)⟩
    · subst heq
      have hne : ((i : Int) != (i : Int)) = false := by simp
      have hc := fun w S => swapRange_any (enc := enc) (w0 := w0) (blk := blk) (off := off) (d0 := d0) HR.out cap (m - i) m i dk w fv (HSK.out.trans HS.out) S (by omega) (by rw [HSK.out]; omega) (by rw [HSK.out]; omega)
      rw [HSK.out] at hc
      have e1 : ((m - i : Nat) : Int) = (m : Int) - (i : Int) := by omega
      rw [e1] at hc
      have HC : Aside _ := hc
      clear hc e1
      go_wp2_with (go_at_call 48; (with_reducible refine (HC.out _ S1.out).mono ?_); rintro e w' ⟨rfl, hS⟩)
      go_end0
      exact ⟨rfl, HQ.out _ _ (HRT.out _ (rot_end (by omega) (by rw [HSK.out]; omega))) hS⟩
    · have hne : ((i : Int) != (j : Int)) = true := by rw [bne_iff_ne]; omega
      have hc := fun w S => swapRange_any (enc := enc) (w0 := w0) (blk := blk) (off := off) (d0 := d0) HR.out cap (m - i) m j dk w fv (HSK.out.trans HS.out) S (by omega) (by rw [HSK.out]; omega) (by rw [HSK.out]; omega)
      rw [HSK.out] at hc
      have e1 : ((m - i : Nat) : Int) = (m : Int) - (i : Int) := by omega
      rw [e1] at hc
      have HC : Aside _ := hc
      clear hc e1
      go_wp2_with (go_at_call 48; (with_reducible refine (HC.out _ S1.out).mono ?_); rintro e w' ⟨rfl, hS⟩)
      have HS2 : Aside _ := hS
      clear hS
      go_roundg (i - j + j)
      case measure => omega
      case rel => exact ⟨i - j, j, swpN dk (m - i) m j, by go_num, rfl, by omega, hj0, by omega, hjb, Nat.le_refl _, (show _ = _ from (size_swpN ..).trans HSK.out), HS2, fun d' h => HRT.out d' (rot_left hgt (by omega) (by rw [HSK.out]; omega) h)⟩

end Go.Proofs.Ytdiogfjbjdiclaa
