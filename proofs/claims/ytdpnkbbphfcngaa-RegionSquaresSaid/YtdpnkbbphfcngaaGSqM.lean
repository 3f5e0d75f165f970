/- Counting the squares of a region in a small square, column by column. -/
import Derived.Test.YtdpnkbbphfcngaaGGood
namespace Go.Proofs.Ytdpnkbbphfcngaa

theorem sumN_swap (f : Int → Int → Int) : ∀ m n : Nat, sumN (fun y => sumN (fun x => f x y) n) m = sumN (fun x => sumN (fun y => f x y) m) n
  | 0, n => by
    have : (fun x => sumN (fun y => f x y) 0) = fun _ => (0 : Int) := rfl
    rw [this, sumN_zero]
    rfl
  | m + 1, n => by
    rw [sumN, sumN_swap f m n, ← sumN_add]
    rfl
theorem sumN_cut {f : Int → Int} {n : Nat} : ∀ d : Nat, (∀ x : Int, (n : Int) ≤ x → f x = 0) → sumN f (n + d) = sumN f n
  | 0, _ => rfl
  | d + 1, h => by
    rw [← Nat.add_assoc, sumN, sumN_cut d h, h _ (by omega)]
    omega

/-- The squares of column x, up to y. -/
def colN (a : List Rc) (x : Int) (j : Nat) : Int := sumN (fun y => ind (insideB a x y)) j
def sqN (a : List Rc) (i : Nat) : Int := sumN (fun x => colN a x 8) i

theorem colN_succ (a : List Rc) (x : Int) (j : Nat) : colN a x (j + 1) = colN a x j + ind (insideB a x j) := rfl
theorem sqN_succ (a : List Rc) (i : Nat) : sqN a (i + 1) = sqN a i + colN a i 8 := rfl

theorem ind_le (b : Bool) : ind b ≤ 1 := by cases b <;> decide
theorem colN_le (a : List Rc) (x : Int) : ∀ j : Nat, 0 ≤ colN a x j ∧ colN a x j ≤ j
  | 0 => by simp [colN, sumN]
  | j + 1 => by
    have h1 := colN_le a x j
    have h2 := ind_le (insideB a x j)
    have h3 := ind_nonneg (insideB a x j)
    rw [colN_succ]
    omega
theorem sqN_le (a : List Rc) : ∀ i : Nat, 0 ≤ sqN a i ∧ sqN a i ≤ 8 * i
  | 0 => by simp [sqN, sumN]
  | i + 1 => by
    have h1 := sqN_le a i
    have h2 := colN_le a i 8
    rw [sqN_succ]
    omega

theorem Good.area8 {a : List Rc} (ha : Good 7 a) : areaL a = sqN a 8 := by
  rw [ha.area]
  have out : ∀ x y : Int, (8 ≤ x ∨ 8 ≤ y) → ind (insideB a x y) = 0 := fun x y h => by
    cases e : insideB a x y
    · rfl
    · have := ha.side x y e
      omega
  have e1 : cnt 16384 (insideB a) = sumN (fun x => sumN (fun y => ind (insideB a x y)) 16384) 16384 := sumN_swap (fun x y => ind (insideB a x y)) 16384 16384
  rw [e1]
  have e2 : ∀ x : Int, sumN (fun y => ind (insideB a x y)) 16384 = colN a x 8 := fun x =>
    sumN_cut (f := fun y => ind (insideB a x y)) (n := 8) 16376 fun y hy => out x y (.inr hy)
  simp only [e2]
  exact sumN_cut (f := fun x => colN a x 8) (n := 8) 16376 fun x hx => by
    show sumN (fun y => ind (insideB a x y)) 8 = 0
    have : (fun y => ind (insideB a x y)) = fun _ => (0 : Int) := funext fun y => out x y (.inl hx)
    rw [this, sumN_zero]
end Go.Proofs.Ytdpnkbbphfcngaa
