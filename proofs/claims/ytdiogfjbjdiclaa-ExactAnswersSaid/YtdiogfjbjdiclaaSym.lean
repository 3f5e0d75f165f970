/- slices.swapRangeCmpFunc and rotateCmpFunc at ints. -/
import Derived.Test.YtdiogfjbjdiclaaSortB
import Derived.BigRegion
import Derived.Sort.WalkB2
import Derived.Sort.WalkB12
import Derived.Deep.LoopGhost
namespace Go.Proofs.Ytdiogfjbjdiclaa
open Go.RowKit Go.Sort Go.Shelf Go.Lib
variable {α : Type} [Inhabited α] {enc : α → Value} {w0 : World} {blk off : Nat} {d0 : Array α}

theorem mixedOrders : Try.prog.follows .mixedOrders = true := by kernel_rfl

/-- The first m elements from a on are exchanged with those from b on. -/
def swpN (d : Array α) (a b : Nat) : Nat → Array α
  | 0 => d
  | i + 1 => swp (swpN d a b i) (a + i) (b + i)
theorem size_swpN (d : Array α) (a b i : Nat) : (swpN d a b i).size = d.size := by
  induction i with
  | zero => rfl
  | succ i ih => rw [swpN, size_swp, ih]

set_option maxHeartbeats 4000000 in
set_option maxRecDepth 100000 in
theorem swapRange_any (R : Row1 enc w0 blk off d0) (cap a b m : Nat) (d : Array α) (w : World) (fv : Value) (hs : d.size = d0.size) (S : SW enc w0 blk off d w) (hab : a + m ≤ b) (hb : b + m ≤ d.size) (hsz : d.size < 4611686018427387904) :
    Calls Try.prog 48 #[.slice (some ⟨blk, off, none⟩) d.size cap, .int .i64 a, .int .i64 b, .int .i64 m, fv] w fun e w' => e = .returned (.tuple #[]) ∧ SW enc w0 blk off (swpN d a b m) w' := by
  have mixed := mixedOrders
  have hcl0 := R.hO.cells
  simp only [Value.cells] at hcl0
  have hst := R.hO.store Try.prog
  have S0 : Aside (SW enc w0 blk off d w) := S
  clear S
  go_enter Try.func48, Try.ntmps48
  go_wp2
  go_loopg [10] m (fun g v wr => ∃ i : Nat, v = .int .i64 i ∧ i ≤ m ∧ m - i ≤ g ∧ Aside (SW enc w0 blk off (swpN d a b i) wr))
  case atStart => exact ⟨0, rfl, by omega, by omega, S0⟩
  case round =>
    clear S0
    obtain ⟨i, rfl, him, hg, S1⟩ := hrel
    by_cases hlt : i < m
    · have hltz : (i : Int) < (m : Int) := by omega
      have hsd : (swpN d a b i).size = d0.size := by rw [size_swpN]; exact hs
      have hsd2 : (swpN d a b i).size = d.size := size_swpN ..
      have HNX : Hid (swpN d a b (i + 1) = swp (swpN d a b i) (a + i) (b + i)) := rfl
      generalize swpN d a b i = dk at *
      obtain ⟨iN, hiN⟩ : ∃ q, q = a + i := ⟨_, rfl⟩
      obtain ⟨jN, hjN⟩ : ∃ q, q = b + i := ⟨_, rfl⟩
      have ea : ((a : Int) + (i : Int)).toNat = iN := by omega
      have pa : (0 : Int) ≤ (a : Int) + (i : Int) := by omega
      have ba : (a : Int) + (i : Int) < (d.size : Int) := by omega
      have ra : IntKind.i64.wrap ((a : Int) + (i : Int)) = (a : Int) + (i : Int) := by rw [IntKind.wrap_i64]; omega
      have ec : ((b : Int) + (i : Int)).toNat = jN := by omega
      have pc : (0 : Int) ≤ (b : Int) + (i : Int) := by omega
      have bc : (b : Int) + (i : Int) < (d.size : Int) := by omega
      have rc : IntKind.i64.wrap ((b : Int) + (i : Int)) = (b : Int) + (i : Int) := by rw [IntKind.wrap_i64]; omega
      obtain ⟨x, hx⟩ : ∃ x, x = dk[a + i]! := ⟨_, rfl⟩
      obtain ⟨y, hy⟩ : ∃ x, x = dk[b + i]! := ⟨_, rfl⟩
      have S2 : Aside (SW enc w0 blk off (swp dk (a + i) (b + i)) ((wr.setCell ⟨blk, off + iN, none⟩ (enc y)).setCell ⟨blk, off + jN, none⟩ (enc x)).drew) := by rw [hiN, hjN, hx, hy]; exact S1.out.swapped R (a + i) (b + i) (by omega) (by omega)
      have ca := S1.out.c1 R hsd (a + i) (by omega)
      have cb := S1.out.c1 R hsd (b + i) (by omega)
      have fa := S1.out.f1 R hsd (a + i) (by omega)
      have fb := S1.out.f1 R hsd (b + i) (by omega)
      obtain ⟨u, cc⟩ := S1.out.c2 R hsd (a + i) (b + i) (by omega) (by omega) (enc y)
      rw [← hjN, ← hiN] at cc
      rw [← hx, ← hiN] at ca
      rw [← hy, ← hjN] at cb
      rw [← hiN] at fa
      rw [← hjN] at fb
      clear S1 hx hy hiN hjN
      go_wp2_with fail
      go_big_region
      clear ca cb cc fa fb
      generalize ((wr.setCell ⟨blk, off + iN, none⟩ (enc y)).setCell ⟨blk, off + jN, none⟩ (enc x)).drew = w2 at S2 ⊢
      clear ea ec
      go_wp2
      go_roundg (m - (i + 1))
      case measure => omega
      case rel => exact ⟨i + 1, by go_num, by omega, Nat.le_refl _, by rw [HNX.out]; exact S2⟩
    · obtain rfl : i = m := by omega
      go_wp2
      go_end0
      exact ⟨rfl, S1.out⟩

/-- [a, m) and [m, b) of d, exchanged as wholes. -/
def RotTo (d d' : Array α) (a m b : Nat) : Prop :=
  d'.size = d.size ∧ (∀ p, p < a ∨ b ≤ p → d'[p]! = d[p]!) ∧ (∀ p, a ≤ p → p < a + (b - m) → d'[p]! = d[p + (m - a)]!) ∧ ∀ p, a + (b - m) ≤ p → p < b → d'[p]! = d[p - (b - m)]!

theorem get_swpN (d : Array α) (a b m : Nat) (hab : a + m ≤ b) (hb : b + m ≤ d.size) :
    (∀ p, a ≤ p → p < a + m → (swpN d a b m)[p]! = d[p - a + b]!) ∧ (∀ p, b ≤ p → p < b + m → (swpN d a b m)[p]! = d[p - b + a]!) ∧ ∀ p, (p < a ∨ a + m ≤ p) → (p < b ∨ b + m ≤ p) → (swpN d a b m)[p]! = d[p]! := by
  induction m with
  | zero => exact ⟨fun p h1 h2 => by omega, fun p h1 h2 => by omega, fun p _ _ => rfl⟩
  | succ m ih =>
    obtain ⟨i1, i2, i3⟩ := ih (by omega) (by omega)
    have hsz := size_swpN d a b m
    refine ⟨fun p h1 h2 => ?_, fun p h1 h2 => ?_, fun p h1 h2 => ?_⟩
    · rw [swpN]
      by_cases e : p = a + m
      · subst e
        rw [swp_left _ _ _ (by omega) (by omega), i3 (b + m) (by omega) (by omega)]
        congr 1; omega
      · rw [swp_other _ _ _ _ e (by omega), i1 p h1 (by omega)]
    · rw [swpN]
      by_cases e : p = b + m
      · subst e
        rw [swp_right _ _ _ (by omega), i3 (a + m) (by omega) (by omega)]
        congr 1; omega
      · rw [swp_other _ _ _ _ (by omega) e, i2 p h1 (by omega)]
    · rw [swpN, swp_other _ _ _ _ (by omega) (by omega)]
      exact i3 p (by omega) (by omega)

end Go.Proofs.Ytdiogfjbjdiclaa
