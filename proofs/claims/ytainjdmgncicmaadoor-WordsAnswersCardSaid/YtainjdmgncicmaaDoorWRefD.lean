/- landaidref02.Decimal. -/
import Derived.Test.YtainjdmgncicmaaDoorWM
import Derived.Laws.BytesArg
namespace Go.Proofs.YtainjdmgncicmaaDoor
open Go.RowKit Go.Shelf

theorem tm_neg (u : Nat) : (-(u : Int)).tmod 10 = -((u % 10 : Nat) : Int) := by
  rw [Int.neg_tmod]; rfl
theorem td_neg (u : Nat) : (-(u : Int)).tdiv 10 = -((u / 10 : Nat) : Int) := by
  rw [Int.neg_tdiv]; rfl
theorem tm_pos (u : Nat) : (u : Int).tmod 10 = ((u % 10 : Nat) : Int) := rfl
theorem td_pos (u : Nat) : (u : Int).tdiv 10 = ((u / 10 : Nat) : Int) := rfl
theorem digit_of {z : Int} {d : Nat} (h : z = ((48 + d : Nat) : Int)) : strOfNums [z] = ⟨#[UInt8.ofNat (48 + d)]⟩ := by
  subst h; rfl
theorem digit_z {n : Int} {u : Nat} (h : n = -(u : Int)) : wrap64 (48 + wrap64 (-n.tmod 10)) % 256 = ((48 + u % 10 : Nat) : Int) := by
  subst h
  rw [tm_neg]
  unfold wrap64
  omega
theorem glue (a b : List UInt8) : (⟨a.toArray⟩ : ByteArray) ++ ⟨b.toArray⟩ = ⟨(a ++ b).toArray⟩ := by
  apply ByteArray.ext
  simp [ByteArray.data_append]
theorem dec_neg1 {n : Int} (h : n < 0) (h10 : -10 < n) : (⟨#[45]⟩ : ByteArray) ++ strOfNums [wrap64 (48 + wrap64 (-n.tmod 10)) % 256] = ⟨(Lib.itoa n).toArray⟩ := by
  have e : n = -((n.natAbs : Nat) : Int) := by omega
  rw [digit_of (digit_z e)]
  rw [show (⟨#[45]⟩ : ByteArray) = ⟨[(45 : UInt8)].toArray⟩ from rfl, show (⟨#[UInt8.ofNat (48 + n.natAbs % 10)]⟩ : ByteArray) = ⟨[UInt8.ofNat (48 + n.natAbs % 10)].toArray⟩ from rfl, glue]
  rw [Lib.itoa, if_pos h, Lib.decDigits, dif_pos (by omega), Nat.mod_eq_of_lt (by omega)]
  rfl
theorem dec_negs {n : Int} (h : n < 0) (h10 : ¬ -10 < n) : (⟨(Lib.itoa (n.tdiv 10)).toArray⟩ : ByteArray) ++ strOfNums [wrap64 (48 + wrap64 (-n.tmod 10)) % 256] = ⟨(Lib.itoa n).toArray⟩ := by
  have e : n = -((n.natAbs : Nat) : Int) := by omega
  have e2 : n.tdiv 10 = -((n.natAbs / 10 : Nat) : Int) := by conv => lhs; rw [e]
                                                             exact td_neg _
  rw [digit_of (digit_z e), e2]
  rw [show (⟨#[UInt8.ofNat (48 + n.natAbs % 10)]⟩ : ByteArray) = ⟨[UInt8.ofNat (48 + n.natAbs % 10)].toArray⟩ from rfl, glue]
  rw [Lib.itoa, if_pos (by omega), Lib.itoa, if_pos h, show (-((n.natAbs / 10 : Nat) : Int)).natAbs = n.natAbs / 10 by omega]
  conv => rhs; rw [Lib.decDigits, dif_neg (by omega)]
  rfl
theorem dec_pos1 {n : Int} (h : ¬ n < 0) (h10 : n < 10) : strOfNums [48 + n] = ⟨(Lib.itoa n).toArray⟩ := by
  rw [digit_of (d := n.toNat) (by omega), Lib.itoa, if_neg h, Lib.decDigits, dif_pos (by omega)]
theorem dec_poss {n z : Int} (h : ¬ n < 0) (h10 : ¬ n < 10) (hz : z = 48 + n.tmod 10) : (⟨(Lib.itoa (n.tdiv 10)).toArray⟩ : ByteArray) ++ strOfNums [z] = ⟨(Lib.itoa n).toArray⟩ := by
  have e : n = ((n.toNat : Nat) : Int) := by omega
  have e2 : n.tdiv 10 = ((n.toNat / 10 : Nat) : Int) := by conv => lhs; rw [e]
                                                           exact td_pos _
  have e3 : n.tmod 10 = ((n.toNat % 10 : Nat) : Int) := by conv => lhs; rw [e]
                                                           exact tm_pos _
  rw [digit_of (z := z) (d := n.toNat % 10) (by rw [hz, e3]; omega), e2]
  rw [show (⟨#[UInt8.ofNat (48 + n.toNat % 10)]⟩ : ByteArray) = ⟨[UInt8.ofNat (48 + n.toNat % 10)].toArray⟩ from rfl, glue]
  rw [Lib.itoa, if_neg (by omega), Lib.itoa, if_neg h, show (((n.toNat / 10 : Nat) : Int)).toNat = n.toNat / 10 by omega]
  conv => rhs; rw [Lib.decDigits, dif_neg (by omega)]

theorem one_byte (w : World) (z : Int) : (convert 28 9 (.slice (some ⟨w.heap.size, 0, none⟩) 1 1)).run Tryd.prog (w.alloc (.cells #[.int .u8 z] 5)) = .ok (.string (strOfNums [z])) (w.alloc (.cells #[.int .u8 z] 5)) := by
  refine run_convert_bytes_arg (P := Tryd.prog) (w.alloc (.cells #[.int .u8 z] 5)) 28 5 Tryd.underlying28 Tryd.underlying5 w.heap.size 0 1 1 [z] rfl (fun i hi => ?_) 9 Tryd.underlying9
  obtain rfl : i = 0 := by omega
  exact World.cell?_alloc_mark w #[.int .u8 z] _ _ 0

end Go.Proofs.YtainjdmgncicmaaDoor
