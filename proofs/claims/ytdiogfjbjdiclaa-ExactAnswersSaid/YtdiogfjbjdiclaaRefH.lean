/- The reference's Shares where all is in range and some weight is not 0. -/
import Derived.Test.YtdiogfjbjdiclaaRefG
import Derived.BigQuiet
import Derived.Deep.QuietTactic
namespace Go.Proofs.Ytdiogfjbjdiclaa
open Go.RowKit

theorem info_bool : (Try.prog.info? 4).map (fun i => (i.zero, i.size, i.bytes)) = some (some (.bool false), 1, 1) := by kernel_rfl

theorem hi_small {T x S : Nat} (hT : T ≤ 1099511627776) (hx : x ≤ S) (hS : 0 < S) : T * x / 18446744073709551616 < S := by
  rw [Nat.div_lt_iff_lt_mul (by omega)]
  have := Nat.mul_le_mul hT hx
  omega

/-- The loop of the quotients: after j rounds. -/
structure RefPre (w w2 : World) (n T S : Nat) (ws : Nat → Nat) (ob rb j : Nat) : Prop where
  below : Below w.heap.size w w2
  size : w2.heap.size = w.heap.size + 2
  ob1 : w.heap.size ≤ ob
  rb1 : w.heap.size ≤ rb
  ob2 : ob < w.heap.size + 2
  rb2 : rb < w.heap.size + 2
  ne : ob ≠ rb
  shares : w2.rowIs ob 3 n (fun q => .int .i64 (if q < j then (baseF T S ws q : Int) else 0))
  rems : w2.rowIs rb 3 n (fun q => .int .i64 (if q < j then (remF T S ws q : Int) else 0))

theorem RefPre.step {w w2 : World} {n T S : Nat} {ws : Nat → Nat} {ob rb j : Nat} (h : RefPre w w2 n T S ws ob rb j) (hj : j < n) (q : Nat) :
    RefPre w (((w2.drewN q).setCell ⟨ob, j, none⟩ (.int .i64 (baseF T S ws j))).setCell ⟨rb, j, none⟩ (.int .i64 (remF T S ws j))) n T S ws ob rb (j + 1) where
  below := (Below.setCell (show Below w.heap.size w (w2.drewN q) from ⟨h.below.os, h.below.tape, h.below.output, h.below.size, h.below.block⟩) h.ob1 _).setCell h.rb1 _
  size := by simpa using h.size
  ob1 := h.ob1
  rb1 := h.rb1
  ob2 := h.ob2
  rb2 := h.rb2
  ne := h.ne
  shares := (World.rowIs.setOther (World.rowIs.set (show (w2.drewN q).rowIs ob _ n _ from h.shares) j _) (by have := h.ne; simp; omega) _).congr (by
    intro i hi
    by_cases e : i = j
    · simp [e]
    · by_cases e2 : i < j
      · have : i < j + 1 := by omega
        simp [e, e2, this]
      · have : ¬ i < j + 1 := by omega
        simp [e, e2, this])
  rems := (World.rowIs.set (World.rowIs.setOther (show (w2.drewN q).rowIs rb _ n _ from h.rems) (by have := h.ne; simp; omega) _) j _).congr (by
    intro i hi
    by_cases e : i = j
    · simp [e]
    · by_cases e2 : i < j
      · have : i < j + 1 := by omega
        simp [e, e2, this]
      · have : ¬ i < j + 1 := by omega
        simp [e, e2, this])

/-- The loop of who gets one more: after t rounds. -/
structure RefAft (w w2 : World) (n T S : Nat) (ws f : Nat → Nat) (ob rb gb t : Nat) : Prop where
  below : Below w.heap.size w w2
  ob1 : w.heap.size ≤ ob
  gb1 : w.heap.size ≤ gb
  ne : ob ≠ rb
  ne2 : ob ≠ gb
  ne3 : rb ≠ gb
  shares : w2.rowIs ob 3 n (fun q => .int .i64 (baseF T S ws q + among f t q : Nat))
  rems : w2.rowIs rb 3 n (fun q => .int .i64 (remF T S ws q : Nat))
  given : w2.rowIs gb 4 n (fun q => .bool (decide (among f t q ≠ 0)))

theorem RefAft.step {w w2 : World} {n T S : Nat} {ws f : Nat → Nat} {ob rb gb t : Nat} (h : RefAft w w2 n T S ws f ob rb gb t) (htn : t < n) (hf : f t < n) (q : Nat) :
    RefAft w (((w2.drewN q).setCell ⟨gb, f t, none⟩ (.bool true)).setCell ⟨ob, f t, none⟩ (.int .i64 ((baseF T S ws (f t) + among f t (f t) + 1 : Nat) : Int))) n T S ws f ob rb gb (t + 1) where
  below := (Below.setCell (show Below w.heap.size w (w2.drewN q) from ⟨h.below.os, h.below.tape, h.below.output, h.below.size, h.below.block⟩) h.gb1 _).setCell h.ob1 _
  ob1 := h.ob1
  gb1 := h.gb1
  ne := h.ne
  ne2 := h.ne2
  ne3 := h.ne3
  shares := (World.rowIs.set (World.rowIs.setOther (show (w2.drewN q).rowIs ob _ n _ from h.shares) (by have := h.ne2; simp; omega) _) (f t) _).congr (by
    intro i hi
    by_cases e : i = f t
    · subst e; simp [among]; omega
    · simp [among, e])
  rems := World.rowIs.setOther (World.rowIs.setOther (show (w2.drewN q).rowIs rb _ n _ from h.rems) (by have := h.ne3; simp; omega) _) (by have := h.ne; simp; omega) _
  given := (World.rowIs.setOther (World.rowIs.set (show (w2.drewN q).rowIs gb _ n _ from h.given) (f t) _) (by have := h.ne2; simp; omega) _).congr (by
    intro i hi
    by_cases e : i = f t
    · subst e; simp [among]
    · simp [among, e])

theorem ref_start (w : World) (n T S : Nat) (ws : Nat → Nat) : RefPre w (twoRows w n) n T S ws w.heap.size (w.heap.size + 1) 0 ∧ RefPre w (twoRows w n) n T S ws (w.heap.size + 1) w.heap.size 0 := by
  have h := rows_two w n
  have b := rows_below w n
  have s := rows_size w n
  exact ⟨⟨b, s, by omega, by omega, by omega, by omega, by omega, by simpa using h.1, by simpa using h.2⟩, ⟨b, s, by omega, by omega, by omega, by omega, by omega, by simpa using h.2, by simpa using h.1⟩⟩

theorem ref_turn {w w2 : World} {n T S : Nat} {ws f : Nat → Nat} {ob rb : Nat} (h : RefPre w w2 n T S ws ob rb n) :
    RefAft w (w2.alloc (.cells (madeCells #[.bool false] n) 4)) n T S ws f ob rb w2.heap.size 0 where
  below := h.below.alloc (by have := h.size; omega) _
  ob1 := h.ob1
  gb1 := by have := h.size; omega
  ne := h.ne
  ne2 := by have := h.size; have := h.ob2; omega
  ne3 := by have := h.size; have := h.rb2; omega
  shares := (h.shares.alloc _).congr (by intro q hq; simp [hq, among])
  rems := (h.rems.alloc _).congr (by intro q hq; simp [hq])
  given := (World.rowIs_made w2 (.bool false) n 4).congr (by intro q hq; simp [among])

theorem goes_on {T S n : Nat} {ws : Nat → Nat} {j : Nat} (hs : sumTo (baseF T S ws) n ≤ T) (hj : j < n) : sumTo (baseF T S ws) j + baseF T S ws j ≤ T :=
  Nat.le_trans (sumTo_le (baseF T S ws) (show j + 1 ≤ n from hj)) hs
end Go.Proofs.Ytdiogfjbjdiclaa
