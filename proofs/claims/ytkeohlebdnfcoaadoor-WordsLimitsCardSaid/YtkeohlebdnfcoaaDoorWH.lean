/- WordsLimits: the walk, whole. -/
import Derived.Test.YtkeohlebdnfcoaaDoorWG
import Derived.Deep.OwnRows
namespace Go.Proofs.YtkeohlebdnfcoaaDoor
open Go.RowKit Go.Shelf

theorem wf_byte {a : Int} (h : (Lit.int .u8 a).wf = true) : 0 ≤ a ∧ a ≤ 255 := by
  have e1 : IntKind.u8.min = 0 := rfl
  have e2 : IntKind.u8.max = 255 := rfl
  simp [Lit.wf, e1, e2] at h
  exact h

set_option maxHeartbeats 2000000 in
set_option maxRecDepth 100000 in
theorem limits_walk (a0 : Int) (w0 : (Lit.int .u8 a0).wf = true) (W : World) (hL : Laid W) :
    Calls Tryd.prog 6 #[.int .u8 a0] W fun e w' => e = .returned (.bool true) ∧ Below W.heap.size W w' := by
  obtain ⟨h0, h1⟩ := wf_byte w0
  obtain ⟨r, hr, hr5⟩ : ∃ r : Nat, a0.tmod 5 = (r : Int) ∧ r < 5 := by
    obtain ⟨o, rfl⟩ := Int.eq_ofNat_of_zero_le h0
    exact ⟨o % 5, by rw [Int.tmod_eq_emod_of_nonneg (by omega)]; omega, Nat.mod_lt _ (by omega)⟩
  obtain ⟨k, hk⟩ : ∃ k : Nat, k = 16381 + r := ⟨_, rfl⟩
  obtain ⟨m, hm⟩ : ∃ m : Nat, m = 398 + r := ⟨_, rfl⟩
  have hkz : (16382 : Int) + (r : Int) = (k : Int) + 1 := by omega
  have hmz : (398 : Int) + (r : Int) = (m : Int) := by omega
  have hmk := fun w => run_make_row' (P := Tryd.prog) 22 25 (.slice none 0 0) 24 Tryd.underlying22 info_line rfl .i64 .i64 m (by omega) (by omega) w
  have hR1 := fun w => repeat_any 97 k (by omega) w
  have hR2 := fun w => repeat_any 10 m (by omega) w
  have hk1 : 1 ≤ k ∧ k ≤ 16385 := by omega
  have hm1 : 1 ≤ m ∧ m ≤ 402 := by omega
  have hkm : (16384 < k + 1) = (400 < m) := by
    apply propext
    omega
  have hS1 := fun (s : ByteArray) w h1 hL => split_a s k (by omega) h1 w hL
  have hS2 := fun (s : ByteArray) w h1 hL => split_n s m hm1.1 (by omega) h1 w hL
  have hJ1 := fun w => join_nils (some ⟨w.heap.size, 0, none⟩) m m (by omega) (w.alloc (.cells (madeCells #[.slice none 0 0] m) 25)) (nil_lines w m)
  have hJ2 := fun (x : ByteArray) w hx => join_word (.slice (some ⟨w.heap.size + 1, 0, none⟩) 1 1) x k hk1.1 (by omega) hx ((w.alloc (.cells #[.string x] 9)).alloc (.cells #[.slice (some ⟨w.heap.size, 0, none⟩) 1 1] 25)) (word_line w x)
  have hr6 : (r : Int) < 5 := by omega
  by_cases hc : 400 < m
  · have hc2 : 16384 < k + 1 := by rw [hkm]; exact hc
    rw [if_pos hc2] at hS1 hJ2
    rw [if_pos hc] at hS2 hJ1
    have g1 : (400 : Int) < (m : Int) := by omega
    have g2 : (16384 : Int) < (k : Int) + 1 := by omega
    have HR1 := Lib.hid hR1
    have HR2 := Lib.hid hR2
    have HS1 := Lib.hid hS1
    have HS2 := Lib.hid hS2
    have HJ1 := Lib.hid hJ1
    have HJ2 := Lib.hid hJ2
    have HMK := Lib.hid hmk
    clear hk hm hR1 hR2 w0 hS1 hS2 hJ1 hJ2 hmk hkm hc hc2
    go_enter Tryd.func6, Tryd.ntmps6
    go_wp2_with fail
    refine (HR1.out _).mono ?_
    rintro e w1 ⟨x1, rfl, hx1, hb1⟩
    have hL1 := hL.below hb1
    have happ : (x1 ++ (⟨#[10]⟩ : ByteArray)).data.toList = List.replicate k 97 ++ [10] := by
      rw [ByteArray.data_append, Array.toList_append, hx1]
    have hz1 : x1.size ≤ 16385 := by
      have h9 : x1.data.toList.length = x1.size := by simp
      rw [hx1, List.length_replicate] at h9
      omega
    have HA := Lib.hid (HS1.out _ w1 happ hL1)
    clear happ hx1
    go_wp2_with fail
    refine HA.out.mono ?_
    rintro e w2 ⟨v2, rfl, hb2⟩
    have hL2 := hL1.below hb2
    have hbe2 := hb1.trans (hb2.mono hb1.size)
    clear hL1 hb1 hb2 HA HS1
    go_wp2_with fail
    refine (HR2.out _).mono ?_
    rintro e w3 ⟨x3, rfl, hx3, hb3⟩
    have hL3 := hL2.below hb3
    have hbe3 := hbe2.trans (hb3.mono hbe2.size)
    have HB := Lib.hid (HS2.out x3 w3 hx3 hL3)
    clear hx3 hL2 hb3 hbe2 HS2
    go_wp2_with fail
    refine HB.out.mono ?_
    rintro e w4 ⟨v4, rfl, hb4⟩
    have hL4 := hL3.below hb4
    have hbe4 := hbe3.trans (hb4.mono hbe3.size)
    clear hL3 hb4 hbe3 HB
    have hmk := HMK.out
    have HC := Lib.hid (HJ1.out w4)
    have hba : Below w4.heap.size w4 (w4.alloc (.cells (madeCells #[.slice none 0 0] m) 25)) := (Below.refl _ _).alloc (Nat.le_refl _) _
    go_wp2_with fail
    clear hmk
    refine HC.out.mono ?_
    rintro e w5 ⟨x5, rfl, hb5⟩
    have hb5' := hba.trans (hb5.mono hba.size)
    have hL5 := hL4.below hb5'
    have hbe5 := hbe4.trans (hb5'.mono hbe4.size)
    clear hL4 hb5 hb5' hba hbe4 HC HJ1
    go_wp2_with fail
    refine (HR1.out _).mono ?_
    rintro e w6 ⟨x6, rfl, hx6, hb6⟩
    have hL6 := hL5.below hb6
    have hbe6 := hbe5.trans (hb6.mono hbe5.size)
    have HD := Lib.hid (HJ2.out x6 w6 hx6)
    have hbb : Below w6.heap.size w6 ((w6.alloc (.cells #[.string x6] 9)).alloc (.cells #[.slice (some ⟨w6.heap.size, 0, none⟩) 1 1] 25)) := ((Below.refl _ _).alloc (Nat.le_refl _) _).alloc (by simp) _
    clear hx6 hL5 hb6 hbe5 HJ2
    go_wp2_with fail
    refine HD.out.mono ?_
    rintro e w7 ⟨x7, rfl, hb7⟩
    have hb7' := hbb.trans (hb7.mono hbb.size)
    have hL7 := hL6.below hb7'
    have hbe7 := hbe6.trans (hb7'.mono hbe6.size)
    clear hL6 hb7 hb7' hbb hbe6 HD
    have hone := split_one w7
    have hAw := Lib.hid (awake_any w7 hL7)
    clear hL7
    go_wp2_with (first
      | (go_at_call 13; (with_reducible refine hone.mono ?_); rintro e w' ⟨rfl, rfl⟩)
      | (go_at_call 7; (with_reducible refine hAw.out.mono ?_); rintro e w8 ⟨rfl, hb8⟩))
    go_ret
    exact ⟨by simp, hbe7.trans (hb8.mono hbe7.size)⟩
  · have hc2 : ¬ 16384 < k + 1 := by rw [hkm]; exact hc
    rw [if_neg hc2] at hS1 hJ2
    rw [if_neg hc] at hS2 hJ1
    have g1 : ¬ (400 : Int) < (m : Int) := by omega
    have g2 : ¬ (16384 : Int) < (k : Int) + 1 := by omega
    have HR1 := Lib.hid hR1
    have HR2 := Lib.hid hR2
    have HS1 := Lib.hid hS1
    have HS2 := Lib.hid hS2
    have HJ1 := Lib.hid hJ1
    have HJ2 := Lib.hid hJ2
    have HMK := Lib.hid hmk
    clear hk hm hR1 hR2 w0 hS1 hS2 hJ1 hJ2 hmk hkm hc hc2
    go_enter Tryd.func6, Tryd.ntmps6
    go_wp2_with fail
    refine (HR1.out _).mono ?_
    rintro e w1 ⟨x1, rfl, hx1, hb1⟩
    have hL1 := hL.below hb1
    have happ : (x1 ++ (⟨#[10]⟩ : ByteArray)).data.toList = List.replicate k 97 ++ [10] := by
      rw [ByteArray.data_append, Array.toList_append, hx1]
    have hz1 : x1.size ≤ 16385 := by
      have h9 : x1.data.toList.length = x1.size := by simp
      rw [hx1, List.length_replicate] at h9
      omega
    have HA := Lib.hid (HS1.out _ w1 happ hL1)
    clear happ hx1
    go_wp2_with fail
    refine HA.out.mono ?_
    rintro e w2 ⟨v2, rfl, hb2⟩
    have hL2 := hL1.below hb2
    have hbe2 := hb1.trans (hb2.mono hb1.size)
    clear hL1 hb1 hb2 HA HS1
    go_wp2_with fail
    refine (HR2.out _).mono ?_
    rintro e w3 ⟨x3, rfl, hx3, hb3⟩
    have hL3 := hL2.below hb3
    have hbe3 := hbe2.trans (hb3.mono hbe2.size)
    have HB := Lib.hid (HS2.out x3 w3 hx3 hL3)
    clear hx3 hL2 hb3 hbe2 HS2
    go_wp2_with fail
    refine HB.out.mono ?_
    rintro e w4 ⟨v4, rfl, hb4⟩
    have hL4 := hL3.below hb4
    have hbe4 := hbe3.trans (hb4.mono hbe3.size)
    clear hL3 hb4 hbe3 HB
    have hmk := HMK.out
    have HC := Lib.hid (HJ1.out w4)
    have hba : Below w4.heap.size w4 (w4.alloc (.cells (madeCells #[.slice none 0 0] m) 25)) := (Below.refl _ _).alloc (Nat.le_refl _) _
    go_wp2_with fail
    clear hmk
    refine HC.out.mono ?_
    rintro e w5 ⟨x5, rfl, hb5⟩
    have hb5' := hba.trans (hb5.mono hba.size)
    have hL5 := hL4.below hb5'
    have hbe5 := hbe4.trans (hb5'.mono hbe4.size)
    clear hL4 hb5 hb5' hba hbe4 HC HJ1
    go_wp2_with fail
    refine (HR1.out _).mono ?_
    rintro e w6 ⟨x6, rfl, hx6, hb6⟩
    have hL6 := hL5.below hb6
    have hbe6 := hbe5.trans (hb6.mono hbe5.size)
    have HD := Lib.hid (HJ2.out x6 w6 hx6)
    have hbb : Below w6.heap.size w6 ((w6.alloc (.cells #[.string x6] 9)).alloc (.cells #[.slice (some ⟨w6.heap.size, 0, none⟩) 1 1] 25)) := ((Below.refl _ _).alloc (Nat.le_refl _) _).alloc (by simp) _
    clear hx6 hL5 hb6 hbe5 HJ2
    go_wp2_with fail
    refine HD.out.mono ?_
    rintro e w7 ⟨x7, rfl, hb7⟩
    have hb7' := hbb.trans (hb7.mono hbb.size)
    have hL7 := hL6.below hb7'
    have hbe7 := hbe6.trans (hb7'.mono hbe6.size)
    clear hL6 hb7 hb7' hbb hbe6 HD
    have hone := split_one w7
    have hAw := Lib.hid (awake_any w7 hL7)
    clear hL7
    go_wp2_with (first
      | (go_at_call 13; (with_reducible refine hone.mono ?_); rintro e w' ⟨rfl, rfl⟩)
      | (go_at_call 7; (with_reducible refine hAw.out.mono ?_); rintro e w8 ⟨rfl, hb8⟩))
    go_ret
    exact ⟨by simp; omega, hbe7.trans (hb8.mono hbe7.size)⟩
end Go.Proofs.YtkeohlebdnfcoaaDoor
