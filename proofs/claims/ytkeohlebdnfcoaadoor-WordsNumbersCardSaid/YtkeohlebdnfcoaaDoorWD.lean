/- WordsNumbers: the walk. -/
import Derived.Test.YtkeohlebdnfcoaaDoorWC
namespace Go.Proofs.YtkeohlebdnfcoaaDoor
open Go.RowKit Go.Shelf

theorem wf_int {a : Int} (h : (Lit.int .i64 a).wf = true) : -9223372036854775808 ≤ a ∧ a ≤ 9223372036854775807 := by
  have e1 : IntKind.i64.min = -9223372036854775808 := rfl
  have e2 : IntKind.i64.max = 9223372036854775807 := rfl
  simp [Lit.wf, e1, e2] at h
  exact h

theorem numR_in (n a b : Int) (h0 : -9223372036854775808 ≤ n) (h1 : n ≤ 9223372036854775807) (ha : a ≤ n) (hb : n ≤ b) : numR (Lib.itoa n) a b = .tuple #[.int .i64 n, .bool true] := by
  unfold numR
  rw [atoi_itoa n h0 h1]
  simp only []
  rw [if_pos ⟨trivial, ha, hb⟩]
theorem numR_out (n a b : Int) (h0 : -9223372036854775808 ≤ n) (h1 : n ≤ 9223372036854775807) (hb : ¬ n ≤ b) : numR (Lib.itoa n) a b = .tuple #[.int .i64 0, .bool false] := by
  unfold numR
  rw [atoi_itoa n h0 h1]
  simp only []
  rw [if_neg (fun h => hb h.2.2)]
theorem numR_zero (n a b : Int) (h0 : -9223372036854775808 ≤ n) (h1 : n ≤ 9223372036854775807) : numR (48 :: Lib.itoa n) a b = .tuple #[.int .i64 0, .bool false] := by
  unfold numR
  rcases hv : Lib.atoiAll (48 :: Lib.itoa n) with v | _ | _
  · simp only []
    rw [if_neg]
    rintro ⟨h, _⟩
    have := itoa_zero h
    have hl := (itoa_len n h0 h1).2
    rw [this] at hl
    exact absurd hl (by decide)
  · rfl
  · rfl
theorem numR_shape (l : List UInt8) (a b : Int) : ∃ (x : Int) (y : Bool), numR l a b = .tuple #[.int .i64 x, .bool y] := by
  unfold numR
  split
  · split
    · exact ⟨_, _, rfl⟩
    · exact ⟨_, _, rfl⟩
  · exact ⟨_, _, rfl⟩

/-- What Number answers at the numeral of n, below n. -/
theorem numR_low (n : Int) (h0 : -9223372036854775808 ≤ n) (h1 : n ≤ 9223372036854775807) : ∃ (x : Int) (y : Bool), numR (Lib.itoa n) (-9223372036854775808) (wrap64 (n - 1)) = .tuple #[.int .i64 x, .bool y] ∧ (n ≠ -9223372036854775808 → y = false) := by
  by_cases h : n = -9223372036854775808
  · obtain ⟨x, y, e⟩ := numR_shape (Lib.itoa n) (-9223372036854775808) (wrap64 (n - 1))
    exact ⟨x, y, e, fun h2 => absurd h h2⟩
  · refine ⟨0, false, numR_out n _ _ h0 h1 ?_, fun _ => rfl⟩
    have : wrap64 (n - 1) = n - 1 := by
      unfold wrap64
      omega
    omega

set_option maxHeartbeats 1000000 in
set_option maxRecDepth 100000 in
theorem numbers_walk (a0 : Int) (w0 : (Lit.int .i64 a0).wf = true) (a1 : Int) (w1 : (Lit.int .i64 a1).wf = true) (a2 : Int) (w2 : (Lit.int .i64 a2).wf = true) (W : World) (hL : Laid W) :
    Calls Tryd.prog 4 #[.int .i64 a0, .int .i64 a1, .int .i64 a2] W fun e w' => e = .returned (.bool true) ∧ Below W.heap.size W w' := by
  obtain ⟨h0, h1⟩ := wf_int w0
  have hd := decimal_any a0 h0 h1 W hL
  have hlen := itoa_len a0 h0 h1
  have hin := numR_in a0 (min a1 a0) (max a2 a0) h0 h1 (by omega) (by omega)
  obtain ⟨x, y, hlow, hy⟩ := numR_low a0 h0 h1
  have hzero := numR_zero a0 (-9223372036854775808) 9223372036854775807 h0 h1
  obtain ⟨s, hs⟩ : ∃ s, s = (⟨(Lib.itoa a0).toArray⟩ : ByteArray) := ⟨_, rfl⟩
  have hsl : s.data.toList = Lib.itoa a0 := ((bytes_eq _ _).1 hs.symm).symm
  have hsz : s.size ≤ 20 := by
    have h3 : s.data.toList.length = s.size := by simp
    rw [hsl] at h3
    omega
  have hn1 := fun w h => number_any s (by omega) (min a1 a0) (max a2 a0) w h
  have hn2 := fun w h => number_any s (by omega) (-9223372036854775808) (wrap64 (a0 - 1)) w h
  have hn3 := fun w h => number_any ((⟨#[48]⟩ : ByteArray) ++ s) (by rw [ByteArray.size_append]; have : (⟨#[48]⟩ : ByteArray).size = 1 := rfl
                                                                     omega) (-9223372036854775808) 9223372036854775807 w h
  have happ : ((⟨#[48]⟩ : ByteArray) ++ s).data.toList = 48 :: Lib.itoa a0 := by
    rw [ByteArray.data_append, Array.toList_append, hsl]
    rfl
  rw [hsl, hin] at hn1
  rw [hsl, hlow] at hn2
  rw [happ, hzero] at hn3
  rw [← hs] at hd
  have HD := Lib.hid hd
  have N1 := Lib.hid hn1
  have N2 := Lib.hid hn2
  have N3 := Lib.hid hn3
  clear hd hn1 hn2 hn3 hin hlow hzero happ hs hsl hlen w0 w1 w2
  by_cases hm : a0 = -9223372036854775808
  · have hmb : (a0 == -9223372036854775808) = true := beq_iff_eq.2 hm
    clear hm h0 h1 hy
    go_enter Tryd.func4, Tryd.ntmps4
    go_wp2_with fail
    refine HD.out.mono ?_
    rintro e w1 ⟨rfl, hb1⟩
    have hL1 := hL.below hb1
    go_wp2_with fail
    refine (N1.out w1 hL1).mono ?_
    rintro e w2 ⟨rfl, hb2⟩
    have hL2 := hL1.below hb2
    have hbe2 := hb1.trans (hb2.mono hb1.size)
    clear hL1 hb1 hb2 N1 HD
    go_wp2_with fail
    refine (N2.out w2 hL2).mono ?_
    rintro e w3 ⟨rfl, hb3⟩
    have hL3 := hL2.below hb3
    have hbe3 := hbe2.trans (hb3.mono hbe2.size)
    clear hL2 hb3 hbe2 N2
    go_wp2_with fail
    refine (N3.out w3 hL3).mono ?_
    rintro e w4 ⟨rfl, hb4⟩
    have hL4 := hL3.below hb4
    have hbe4 := hbe3.trans (hb4.mono hbe3.size)
    clear hL3 hb4 hbe3 N3
    have hAw := Lib.hid (awake_any w4 hL4)
    clear hL4
    go_wp2_with (go_at_call 7; (with_reducible refine hAw.out.mono ?_); rintro e w5 ⟨rfl, hb5⟩)
    go_ret
    exact ⟨by simp, hbe4.trans (hb5.mono hbe4.size)⟩
  · have hmb : (a0 == -9223372036854775808) = false := beq_eq_false_iff_ne.2 hm
    obtain rfl := hy hm
    clear hm h0 h1 hy
    go_enter Tryd.func4, Tryd.ntmps4
    go_wp2_with fail
    refine HD.out.mono ?_
    rintro e w1 ⟨rfl, hb1⟩
    have hL1 := hL.below hb1
    go_wp2_with fail
    refine (N1.out w1 hL1).mono ?_
    rintro e w2 ⟨rfl, hb2⟩
    have hL2 := hL1.below hb2
    have hbe2 := hb1.trans (hb2.mono hb1.size)
    clear hL1 hb1 hb2 N1 HD
    go_wp2_with fail
    refine (N2.out w2 hL2).mono ?_
    rintro e w3 ⟨rfl, hb3⟩
    have hL3 := hL2.below hb3
    have hbe3 := hbe2.trans (hb3.mono hbe2.size)
    clear hL2 hb3 hbe2 N2
    go_wp2_with fail
    refine (N3.out w3 hL3).mono ?_
    rintro e w4 ⟨rfl, hb4⟩
    have hL4 := hL3.below hb4
    have hbe4 := hbe3.trans (hb4.mono hbe3.size)
    clear hL3 hb4 hbe3 N3
    have hAw := Lib.hid (awake_any w4 hL4)
    clear hL4
    go_wp2_with (go_at_call 7; (with_reducible refine hAw.out.mono ?_); rintro e w5 ⟨rfl, hb5⟩)
    go_ret
    exact ⟨by simp, hbe4.trans (hb5.mono hbe4.size)⟩
end Go.Proofs.YtkeohlebdnfcoaaDoor
