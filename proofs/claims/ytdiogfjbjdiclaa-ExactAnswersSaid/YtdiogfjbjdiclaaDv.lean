/- math/bits.Div64. -/
import Derived.Test.YtdiogfjbjdiclaaDvMath
import Derived.Test.YtdiogfjbjdiclaaAwake
import Derived.Lib.BitFns
namespace Go.Proofs.Ytdiogfjbjdiclaa
open Go.RowKit

theorem bitLenAux_spec : ∀ (f x : Nat), x < 2 ^ f → x < 2 ^ Lib.bitLenAux f x ∧ (x ≠ 0 → 2 ^ Lib.bitLenAux f x ≤ 2 * x) ∧ Lib.bitLenAux f x ≤ f
  | 0, x, h => by
    have : x = 0 := by simpa using h
    subst this
    simp [Lib.bitLenAux]
  | f + 1, x, h => by
    rw [Lib.bitLenAux]
    by_cases h0 : x = 0
    · subst h0; simp
    · rw [if_neg h0]
      have hp : (2 : Nat) ^ (f + 1) = 2 * 2 ^ f := by rw [Nat.pow_succ]; omega
      obtain ⟨i1, i2, i3⟩ := bitLenAux_spec f (x / 2) (by omega)
      have hq : (2 : Nat) ^ (1 + Lib.bitLenAux f (x / 2)) = 2 * 2 ^ Lib.bitLenAux f (x / 2) := by rw [Nat.add_comm, Nat.pow_succ]; omega
      rw [hq]
      refine ⟨by omega, fun _ => ?_, by omega⟩
      by_cases h2 : x / 2 = 0
      · have h1 : x = 1 := by omega
        subst h1
        have : Lib.bitLenAux f (1 / 2) = 0 := by
          cases f with
          | zero => rfl
          | succ f => rw [Lib.bitLenAux]; simp
        rw [this]
        decide
      · have := i2 h2
        omega

/-- How far y is shifted: y times 2^s has its highest bit. -/
theorem norm_spec (y : Nat) (h0 : 0 < y) (h : y < 18446744073709551616) : ∃ s : Nat, s ≤ 63 ∧ (64 - (Lib.bitLen y : Int)) = (s : Int) ∧ y * 2 ^ s < 18446744073709551616 ∧ 9223372036854775808 ≤ y * 2 ^ s := by
  obtain ⟨h1, h2, h3⟩ := bitLenAux_spec 64 y h
  have h2 := h2 (by omega)
  have hb : Lib.bitLen y = Lib.bitLenAux 64 y := rfl
  rw [hb]
  generalize Lib.bitLenAux 64 y = l at *
  have hl : 1 ≤ l := by
    refine Classical.byContradiction fun hn => ?_
    have : l = 0 := by omega
    subst this
    simp at h1
    omega
  refine ⟨64 - l, by omega, by omega, ?_, ?_⟩
  · have e : (18446744073709551616 : Nat) = 2 ^ l * 2 ^ (64 - l) := by rw [← Nat.pow_add, show l + (64 - l) = 64 by omega]
    rw [e]
    exact Nat.mul_lt_mul_of_pos_right h1 (Nat.two_pow_pos _)
  · have e : (18446744073709551616 : Nat) = 2 ^ l * 2 ^ (64 - l) := by rw [← Nat.pow_add, show l + (64 - l) = 64 by omega]
    have := Nat.mul_le_mul_right (2 ^ (64 - l)) h2
    rw [← e, Nat.mul_assoc] at this
    omega

/-- The words that the walk computes, under names of their own. -/
structure Words (hi lo y s Y y1 y0 H l2 u n v1 v0 : Nat) : Prop where
  eY : IntKind.u64.wrap ((y : Int) * 2 ^ s) = (Y : Int)
  ey1 : (Y : Int) / 4294967296 = (y1 : Int)
  ey0 : bits .and .u64 (Y : Int) 4294967295 = (y0 : Int)
  eH : IntKind.u64.wrap ((hi : Int) * 2 ^ s) = (H : Int)
  el : (lo : Int) / 2 ^ (64 - s) = (l2 : Int)
  eu : bits .or .u64 (H : Int) (l2 : Int) = (u : Int)
  en : IntKind.u64.wrap ((lo : Int) * 2 ^ s) = (n : Int)
  ev1 : (n : Int) / 4294967296 = (v1 : Int)
  ev0 : bits .and .u64 (n : Int) 4294967295 = (v0 : Int)

theorem recompose {X u n : Nat} (h : 18446744073709551616 * u + n = X) : X = (u * 4294967296 + n / 4294967296) * 4294967296 + n % 4294967296 := by omega

theorem words_all (hi lo y s : Nat) (hs : s ≤ 63) (hhy : hi < y) (hlo : lo < 18446744073709551616) (n1 : y * 2 ^ s < 18446744073709551616) (n2 : 9223372036854775808 ≤ y * 2 ^ s) :
    ∃ Y y1 y0 H l2 u n v1 v0 : Nat, Words hi lo y s Y y1 y0 H l2 u n v1 v0 ∧ Y = y * 2 ^ s ∧ Y = y1 * 4294967296 + y0 ∧ y0 < 4294967296 ∧ 2147483648 ≤ y1 ∧ y1 < 4294967296 ∧
      u < Y ∧ v1 < 4294967296 ∧ v0 < 4294967296 ∧ (hi * 18446744073709551616 + lo) * 2 ^ s = (u * 4294967296 + v1) * 4294967296 + v0 := by
  have hc : ∀ x : Nat, (x : Int) * 2 ^ s = ((x * 2 ^ s : Nat) : Int) := fun x => by rw [Int.natCast_mul, Int.natCast_pow]; rfl
  have hH : hi * 2 ^ s < y * 2 ^ s := Nat.mul_lt_mul_of_pos_right hhy (Nat.two_pow_pos s)
  have hor : hi * 2 ^ s ||| lo / 2 ^ (64 - s) = hi * 2 ^ s + lo / 2 ^ (64 - s) := by
    have hlt : lo / 2 ^ (64 - s) < 2 ^ s := by
      refine (Nat.div_lt_iff_lt_mul (Nat.two_pow_pos _)).2 ?_
      rw [← Nat.pow_add, show s + (64 - s) = 64 by omega]
      exact hlo
    have := Nat.shiftLeft_add_eq_or_of_lt hlt hi
    rw [Nat.shiftLeft_eq] at this
    exact this.symm
  have hu := Dv.shift_hi hi lo s (by omega)
  have hl := Dv.shift_lo hi lo s
  have huY : hi * 2 ^ s + lo / 2 ^ (64 - s) < y * 2 ^ s := by
    rw [← hu]
    refine (Nat.div_lt_iff_lt_mul (by decide)).2 ?_
    have : hi * 18446744073709551616 + lo < y * 18446744073709551616 := by omega
    have h2 := Nat.mul_lt_mul_of_pos_right this (Nat.two_pow_pos s)
    rw [Nat.mul_right_comm] at h2
    exact h2
  have hsplit := Nat.div_add_mod ((hi * 18446744073709551616 + lo) * 2 ^ s) 18446744073709551616
  rw [hu, hl] at hsplit
  have hn : lo * 2 ^ s % 18446744073709551616 < 18446744073709551616 := Nat.mod_lt _ (by decide)
  refine ⟨y * 2 ^ s, y * 2 ^ s / 4294967296, y * 2 ^ s % 4294967296, hi * 2 ^ s, lo / 2 ^ (64 - s), hi * 2 ^ s + lo / 2 ^ (64 - s), lo * 2 ^ s % 18446744073709551616, lo * 2 ^ s % 18446744073709551616 / 4294967296, lo * 2 ^ s % 18446744073709551616 % 4294967296,
    ⟨?_, ?_, ?_, ?_, ?_, ?_, ?_, ?_, ?_⟩, rfl, ?_, ?_, ?_, ?_, huY, ?_, ?_, ?_⟩
  · rw [hc]; exact Mul64.wrapN _ n1
  · exact Mul64.divN _
  · exact Mul64.maskN _ n1
  · rw [hc]; exact Mul64.wrapN _ (by omega)
  · rw [Int.natCast_ediv, Int.natCast_pow]; rfl
  · have h := bits_or_u64_nat (hi * 2 ^ s) (lo / 2 ^ (64 - s)) (by omega) (by omega)
    rw [hor] at h
    exact h
  · rw [hc]; exact Mul64.wrapM _
  · exact Mul64.divN _
  · exact Mul64.maskN _ hn
  · generalize y * 2 ^ s = Y at *; omega
  · exact Nat.mod_lt _ (by decide)
  · generalize y * 2 ^ s = Y at *; omega
  · generalize y * 2 ^ s = Y at *; omega
  · generalize lo * 2 ^ s % 18446744073709551616 = n at *; omega
  · exact Nat.mod_lt _ (by decide)
  · exact recompose hsplit

/-- What the search for a digit knows: q is at least the digit, and q times y1 is taken off u. -/
structure Seek (u v y1 y0 q r : Nat) : Prop where
  split : q * y1 + r = u
  ge : (u * 4294967296 + v) / (y1 * 4294967296 + y0) ≤ q

theorem seek_start {u v y1 y0 : Nat} (hv : v < 4294967296) (h1 : 0 < y1) : Seek u v y1 y0 (u / y1) (u - u / y1 * y1) :=
  ⟨by have := Nat.div_mul_le_self u y1; omega, Dv.dig_ge hv h1⟩
theorem seek_down {u v y1 y0 q r : Nat} (h : Seek u v y1 y0 q r) (hlt : (u * 4294967296 + v) / (y1 * 4294967296 + y0) < q) : Seek u v y1 y0 (q - 1) (r + y1) := by
  have hq0 : 0 < q := Nat.lt_of_le_of_lt (Nat.zero_le _) hlt
  obtain ⟨q, rfl⟩ : ∃ k, q = k + 1 := ⟨q - 1, by omega⟩
  refine ⟨?_, Nat.le_of_lt_succ hlt⟩
  have := h.split
  rw [Nat.add_mul] at this
  show q * y1 + (r + y1) = u
  omega

/-- A digit's first guess, and the words that compute it. -/
theorem guess {u v y1 y0 : Nat} (hu : u < 18446744073709551616) (hv : v < 4294967296) (h1 : 2147483648 ≤ y1) (h2 : y1 < 4294967296) :
    ∃ q m r : Nat, (u : Int) / (y1 : Int) = (q : Int) ∧ IntKind.u64.wrap ((q : Int) * (y1 : Int)) = (m : Int) ∧ (u : Int) - (m : Int) = (r : Int) ∧ Seek u v y1 y0 q r ∧ r < 4294967296 ∧ q < 18446744073709551616 := by
  have hm := Nat.div_mul_le_self u y1
  have hr : u - u / y1 * y1 < 4294967296 := by
    have h3 := Nat.mod_lt u (show 0 < y1 by omega)
    have h := Nat.div_add_mod u y1
    rw [Nat.mul_comm] at h
    omega
  exact ⟨u / y1, u / y1 * y1, u - u / y1 * y1, rfl, by rw [Mul64.mulN]; exact Mul64.wrapN _ (by omega), by omega, seek_start hv (by omega), hr, Nat.lt_of_le_of_lt (Nat.div_le_self _ _) hu⟩

theorem digit_lt {u v Y q : Nat} (hu : u < Y) (hv : v < 4294967296) (hq : (u * 4294967296 + v) / Y = q) : (q : Int) ≤ 4294967295 := by
  have := (Nat.div_lt_iff_lt_mul (show 0 < Y by omega) (x := u * 4294967296 + v) (y := 4294967296)).2 (by omega)
  omega

theorem word_sub {u v p R : Nat} (h : p + R = u * 4294967296 + v) (hR : R < 18446744073709551616) :
    IntKind.u64.wrap (IntKind.u64.wrap (IntKind.u64.wrap ((u : Int) * 4294967296) + (v : Int)) - IntKind.u64.wrap (p : Int)) = (R : Int) := by
  simp only [IntKind.wrap_u64]
  omega

theorem un21_word {u v Y q : Nat} (hu : u < Y) (hY : Y < 18446744073709551616) (_hv : v < 4294967296) (hq : (u * 4294967296 + v) / Y = q) :
    ∃ R : Nat, R < Y ∧ IntKind.u64.wrap (IntKind.u64.wrap (IntKind.u64.wrap ((u : Int) * 4294967296) + (v : Int)) - IntKind.u64.wrap ((q : Int) * (Y : Int))) = (R : Int) ∧ R = (u * 4294967296 + v) % Y := by
  have hm := Nat.mod_lt (u * 4294967296 + v) (show 0 < Y by omega)
  have hd := Nat.div_add_mod (u * 4294967296 + v) Y
  rw [hq, Nat.mul_comm] at hd
  refine ⟨(u * 4294967296 + v) % Y, hm, ?_, rfl⟩
  rw [Mul64.mulN]
  exact word_sub hd (by omega)

theorem last_words (s : Nat) {u v Y q : Nat} (hu : u < Y) (hY : Y < 18446744073709551616) (hv : v < 4294967296) (hq : (u * 4294967296 + v) / Y = q) :
    ∃ Z X : Nat, IntKind.u64.wrap (IntKind.u64.wrap (IntKind.u64.wrap ((u : Int) * 4294967296) + (v : Int)) - IntKind.u64.wrap ((q : Int) * (Y : Int))) = (Z : Int) ∧
      (Z : Int) / 2 ^ s = (X : Int) ∧ X = (u * 4294967296 + v) % Y / 2 ^ s := by
  obtain ⟨R, _, h, rfl⟩ := un21_word hu hY hv hq
  exact ⟨_, (u * 4294967296 + v) % Y / 2 ^ s, h, by rw [Int.natCast_ediv, Int.natCast_pow]; rfl, rfl⟩

theorem fin_words {N v0 Y Q1 R1 s A B : Nat} (hA : (N * 4294967296 + v0) / Y = A) (hB : (N * 4294967296 + v0) % Y / 2 ^ s = B) (hY : 0 < Y) (hq : N / Y = Q1) (hR : R1 = N % Y) :
    ∀ q X : Nat, (R1 * 4294967296 + v0) / Y = q → X = (R1 * 4294967296 + v0) % Y / 2 ^ s → (Q1 : Int) * 4294967296 + (q : Int) = (A : Int) ∧ X = B := by
  intro q X hq2 hX
  obtain ⟨d1, d2⟩ := Dv.two_digits (N := N) (v0 := v0) hY
  rw [d1, hq, ← hR, hq2] at hA
  rw [d2, ← hR] at hB
  exact ⟨by rw [← hA, Int.natCast_add, Int.natCast_mul]; rfl, hX.trans hB⟩

set_option maxHeartbeats 4000000 in
theorem div64_high (hi lo y : Nat) (hh0 : 0 < hi) (hhy : hi < y) (hlo : lo < 18446744073709551616) (hy : y < 18446744073709551616) (w : World) :
    Calls Try.prog 29 #[.int .u64 hi, .int .u64 lo, .int .u64 y] w fun e w' => e = .returned (.tuple #[.int .u64 (((hi * 18446744073709551616 + lo) / y : Nat) : Int), .int .u64 (((hi * 18446744073709551616 + lo) % y : Nat) : Int)]) ∧ ∃ q, w' = w.drewN q := by
  have h1 : ((y : Int) == 0) = false := beq_eq_false_iff_ne.2 (by omega)
  have h2 : ((hi : Int) == 0) = false := beq_eq_false_iff_ne.2 (by omega)
  have h3 : ¬ (y : Int) ≤ (hi : Int) := by omega
  have hlz := fun w => Try.bits_LeadingZeros64 y w (by omega) (by omega)
  obtain ⟨s, hs, es, n1, n2⟩ := norm_spec y (by omega) hy
  simp only [Int.toNat_natCast, es] at hlz
  have hsz : (s : Int) ≤ 63 := by omega
  clear es
  obtain ⟨Y, y1, y0, H, l2, u, n, v1, v0, ⟨eY, ey1, ey0, eH, el, eu, en, ev1, ev0⟩, hY, hYs, hy0, hy1a, hy1b, huY, hv1, hv0, hX⟩ := words_all hi lo y s hs hhy hlo n1 n2
  have hfin : (hi * 18446744073709551616 + lo) / y = ((u * 4294967296 + v1) * 4294967296 + v0) / Y ∧ (hi * 18446744073709551616 + lo) % y = ((u * 4294967296 + v1) * 4294967296 + v0) % Y / 2 ^ s := by
    rw [← hX, hY, Dv.shift_div, Dv.shift_mod]
    exact ⟨rfl, rfl⟩
  rw [hfin.1, hfin.2]
  clear hfin
  generalize hAA : ((u * 4294967296 + v1) * 4294967296 + v0) / Y = A
  generalize hBB : ((u * 4294967296 + v1) * 4294967296 + v0) % Y / 2 ^ s = B
  have HAA := Lib.hid hAA
  have HBB := Lib.hid hBB
  clear hAA hBB
  have hYb : Y < 18446744073709551616 := by rw [hY]; exact n1
  clear hX n1 n2 hY
  -- the first digit's guess
  obtain ⟨q0, m0, r0, g1, g2, g3, g4, g5, g6⟩ := guess (v := v1) (y0 := y0) (show u < 18446744073709551616 by omega) hv1 hy1a hy1b
  have HSK := Lib.hid g4
  have HYS := Lib.hid hYs
  have hy1z : (0 : Int) < (y1 : Int) := by omega
  have hy1z' : (y1 : Int) < 4294967296 := by omega
  have hy1l : (2147483648 : Int) ≤ (y1 : Int) := by omega
  clear hYs g4
  go_enter Try.func29, Try.ntmps29
  go_wp2_with (go_at_call 37; (with_reducible refine (hlz _).mono ?_); rintro e w' ⟨rfl, hw⟩; rw [hw])
  go_loopg [15, 16] 4294967296 (fun g vq vr wr => ∃ q r : Nat, vq = .int .u64 q ∧ vr = .int .u64 r ∧ w = wr ∧ r < 4294967296 ∧ 4294967296 - r ≤ g ∧ q < 18446744073709551616 ∧ Hid (Seek u v1 y1 y0 q r))
  case atStart => exact ⟨q0, r0, rfl, rfl, rfl, g5, by omega, g6, HSK⟩
  case round =>
    clear HSK g1 g2 g3 g5 g6
    obtain ⟨q, r, rfl, rfl, rfl, hr, hg, hq64, HSK⟩ := hrel
    have hrz : (r : Int) < 4294967296 := by omega
    have hvz : (v1 : Int) < 4294967296 := by omega
    by_cases hA : 4294967296 ≤ q
    · have zA : (4294967296 : Int) ≤ (q : Int) := by omega
      have hqz : (q : Int) < 18446744073709551616 := by omega
      have hdn := seek_down HSK.out (Dv.dig_big (Y := y1 * 4294967296 + y0) hv1 (by rw [← HYS.out]; exact huY) hA)
      obtain ⟨q', hq'⟩ : ∃ q', q' = q - 1 := ⟨_, rfl⟩
      obtain ⟨r', hr'⟩ : ∃ r', r' = r + y1 := ⟨_, rfl⟩
      rw [← hq', ← hr'] at hdn
      have HDN := Lib.hid hdn
      have zq : (q : Int) - 1 = (q' : Int) := by omega
      have zr : (r : Int) + (y1 : Int) = (r' : Int) := by omega
      have hrr' : r < r' := by omega
      have hq64' : q' < 18446744073709551616 := by omega
      clear hdn HSK hq' hr' hq64
      by_cases hbk : 4294967296 ≤ r'
      · have zb : (4294967296 : Int) ≤ (r' : Int) := by omega
        have hq2 := Dv.dig_brk (by omega) hy0 (by rw [← HYS.out]; exact huY) HDN.out.split hbk HDN.out.ge
        rw [← HYS.out] at hq2
        have hz1 := digit_lt huY hv1 hq2
        obtain ⟨R1, hR1Y, e21, hR1⟩ := un21_word huY hYb hv1 hq2
        have HFIN := Lib.hid (fin_words HAA.out HBB.out (by omega) hq2 hR1)
        have hR1b : R1 < 18446744073709551616 := by omega
        obtain ⟨q1, m1, r1, g1, g2, g3, g4, g5, g6⟩ := guess (v := v0) (y0 := y0) hR1b hv0 hy1a hy1b
        have HSK1 := Lib.hid g4
        clear hq2 g4 hR1
        go_wp2_with fail
        go_loopg [18, 16] 4294967296 (fun g vq vr wr => ∃ q r : Nat, vq = .int .u64 q ∧ vr = .int .u64 r ∧ w = wr ∧ r < 4294967296 ∧ 4294967296 - r ≤ g ∧ q < 18446744073709551616 ∧ Hid (Seek R1 v0 y1 y0 q r))
        case atStart => exact ⟨q1, r1, rfl, rfl, rfl, g5, by omega, g6, HSK1⟩
        case round =>
          clear HSK1 g1 g2 g3 g5 g6 e21
          obtain ⟨q, r, rfl, rfl, rfl, hr, hg, hq64, HSK⟩ := hrel
          have hrz : (r : Int) < 4294967296 := by omega
          have hvz : (v0 : Int) < 4294967296 := by omega
          by_cases hA : 4294967296 ≤ q
          · have zA : (4294967296 : Int) ≤ (q : Int) := by omega
            have hqz : (q : Int) < 18446744073709551616 := by omega
            have hdn := seek_down HSK.out (Dv.dig_big (Y := y1 * 4294967296 + y0) hv0 (by rw [← HYS.out]; exact hR1Y) hA)
            obtain ⟨q', hq'⟩ : ∃ q', q' = q - 1 := ⟨_, rfl⟩
            obtain ⟨r', hr'⟩ : ∃ r', r' = r + y1 := ⟨_, rfl⟩
            rw [← hq', ← hr'] at hdn
            have HDN := Lib.hid hdn
            have zq : (q : Int) - 1 = (q' : Int) := by omega
            have zr : (r : Int) + (y1 : Int) = (r' : Int) := by omega
            have hrr' : r < r' := by omega
            have hq64' : q' < 18446744073709551616 := by omega
            clear hdn HSK hq' hr' hq64
            by_cases hbk : 4294967296 ≤ r'
            · have zb : (4294967296 : Int) ≤ (r' : Int) := by omega
              have hq2 := Dv.dig_brk (by omega) hy0 (by rw [← HYS.out]; exact hR1Y) HDN.out.split hbk HDN.out.ge
              rw [← HYS.out] at hq2
              have hz := digit_lt hR1Y hv0 hq2
              obtain ⟨Z, X, e0, es, hX⟩ := last_words s hR1Y hYb hv0 hq2
              have HE := Lib.hid (HFIN.out q' X hq2 hX)
              clear hq2 hX
              go_wp2_with fail
              go_ret2
              exact ⟨ret_ii HE.out.1 (congrArg Nat.cast HE.out.2), 0, rfl⟩
            · have zb : ¬ (4294967296 : Int) ≤ (r' : Int) := by omega
              go_wp2
              go_roundg (4294967296 - r')
              case measure => omega
              case rel => exact ⟨q', r', rfl, rfl, rfl, by omega, Nat.le_refl _, hq64', HDN⟩
          · have zA : ¬ (4294967296 : Int) ≤ (q : Int) := by omega
            obtain ⟨p, hp⟩ : ∃ p, p = q * y0 := ⟨_, rfl⟩
            have hpb : p < 18446744073709551616 := by
              have := Nat.mul_le_mul (show q ≤ 4294967295 by omega) (show y0 ≤ 4294967295 by omega)
              omega
            have zp : IntKind.u64.wrap ((q : Int) * (y0 : Int)) = (p : Int) := by rw [Mul64.mulN, ← hp]; exact Mul64.wrapN _ hpb
            by_cases hB : 4294967296 * r + v0 < p
            · have zB : 4294967296 * (r : Int) + (v0 : Int) < (p : Int) := by omega
              have hdn := seek_down HSK.out (Dv.dig_no HSK.out.split (by rw [← hp]; exact hB))
              have hq1 : 1 ≤ q := by
                refine Nat.pos_of_ne_zero fun e => ?_
                subst e
                simp at hp
                omega
              obtain ⟨q', hq'⟩ : ∃ q', q' = q - 1 := ⟨_, rfl⟩
              obtain ⟨r', hr'⟩ : ∃ r', r' = r + y1 := ⟨_, rfl⟩
              rw [← hq', ← hr'] at hdn
              have HDN := Lib.hid hdn
              have zq : (q : Int) - 1 = (q' : Int) := by omega
              have zr : (r : Int) + (y1 : Int) = (r' : Int) := by omega
              have hrr' : r < r' := by omega
              have hq64' : q' < 18446744073709551616 := by omega
              clear hdn HSK hp hq' hr' hq64
              by_cases hbk : 4294967296 ≤ r'
              · have zb : (4294967296 : Int) ≤ (r' : Int) := by omega
                have hq2 := Dv.dig_brk (by omega) hy0 (by rw [← HYS.out]; exact hR1Y) HDN.out.split hbk HDN.out.ge
                rw [← HYS.out] at hq2
                have hz := digit_lt hR1Y hv0 hq2
                obtain ⟨Z, X, e0, es, hX⟩ := last_words s hR1Y hYb hv0 hq2
                have HE := Lib.hid (HFIN.out q' X hq2 hX)
                clear hq2 hX
                go_wp2_with fail
                go_ret2
                exact ⟨ret_ii HE.out.1 (congrArg Nat.cast HE.out.2), 0, rfl⟩
              · have zb : ¬ (4294967296 : Int) ≤ (r' : Int) := by omega
                go_wp2
                go_roundg (4294967296 - r')
                case measure => omega
                case rel => exact ⟨q', r', rfl, rfl, rfl, by omega, Nat.le_refl _, hq64', HDN⟩
            · have zB : ¬ 4294967296 * (r : Int) + (v0 : Int) < (p : Int) := by omega
              have hq2 := Dv.dig_yes (by omega) HSK.out.split (by rw [← hp]; omega) HSK.out.ge
              clear hp
              rw [← HYS.out] at hq2
              have hz := digit_lt hR1Y hv0 hq2
              obtain ⟨Z, X, e0, es, hX⟩ := last_words s hR1Y hYb hv0 hq2
              have HE := Lib.hid (HFIN.out q X hq2 hX)
              clear hq2 hX
              go_wp2_with fail
              go_ret2
              exact ⟨ret_ii HE.out.1 (congrArg Nat.cast HE.out.2), 0, rfl⟩
      · have zb : ¬ (4294967296 : Int) ≤ (r' : Int) := by omega
        go_wp2
        go_roundg (4294967296 - r')
        case measure => omega
        case rel => exact ⟨q', r', rfl, rfl, rfl, by omega, Nat.le_refl _, hq64', HDN⟩
    · have zA : ¬ (4294967296 : Int) ≤ (q : Int) := by omega
      obtain ⟨p, hp⟩ : ∃ p, p = q * y0 := ⟨_, rfl⟩
      have hpb : p < 18446744073709551616 := by
        have := Nat.mul_le_mul (show q ≤ 4294967295 by omega) (show y0 ≤ 4294967295 by omega)
        omega
      have zp : IntKind.u64.wrap ((q : Int) * (y0 : Int)) = (p : Int) := by rw [Mul64.mulN, ← hp]; exact Mul64.wrapN _ hpb
      by_cases hB : 4294967296 * r + v1 < p
      · have zB : 4294967296 * (r : Int) + (v1 : Int) < (p : Int) := by omega
        have hdn := seek_down HSK.out (Dv.dig_no HSK.out.split (by rw [← hp]; exact hB))
        have hq1 : 1 ≤ q := by
          refine Nat.pos_of_ne_zero fun e => ?_
          subst e
          simp at hp
          omega
        obtain ⟨q', hq'⟩ : ∃ q', q' = q - 1 := ⟨_, rfl⟩
        obtain ⟨r', hr'⟩ : ∃ r', r' = r + y1 := ⟨_, rfl⟩
        rw [← hq', ← hr'] at hdn
        have HDN := Lib.hid hdn
        have zq : (q : Int) - 1 = (q' : Int) := by omega
        have zr : (r : Int) + (y1 : Int) = (r' : Int) := by omega
        have hrr' : r < r' := by omega
        have hq64' : q' < 18446744073709551616 := by omega
        clear hdn HSK hp hq' hr' hq64
        by_cases hbk : 4294967296 ≤ r'
        · have zb : (4294967296 : Int) ≤ (r' : Int) := by omega
          have hq2 := Dv.dig_brk (by omega) hy0 (by rw [← HYS.out]; exact huY) HDN.out.split hbk HDN.out.ge
          rw [← HYS.out] at hq2
          have hz1 := digit_lt huY hv1 hq2
          obtain ⟨R1, hR1Y, e21, hR1⟩ := un21_word huY hYb hv1 hq2
          have HFIN := Lib.hid (fin_words HAA.out HBB.out (by omega) hq2 hR1)
          have hR1b : R1 < 18446744073709551616 := by omega
          obtain ⟨q1, m1, r1, g1, g2, g3, g4, g5, g6⟩ := guess (v := v0) (y0 := y0) hR1b hv0 hy1a hy1b
          have HSK1 := Lib.hid g4
          clear hq2 g4 hR1
          go_wp2_with fail
          go_loopg [18, 16] 4294967296 (fun g vq vr wr => ∃ q r : Nat, vq = .int .u64 q ∧ vr = .int .u64 r ∧ w = wr ∧ r < 4294967296 ∧ 4294967296 - r ≤ g ∧ q < 18446744073709551616 ∧ Hid (Seek R1 v0 y1 y0 q r))
          case atStart => exact ⟨q1, r1, rfl, rfl, rfl, g5, by omega, g6, HSK1⟩
          case round =>
            clear HSK1 g1 g2 g3 g5 g6 e21
            obtain ⟨q, r, rfl, rfl, rfl, hr, hg, hq64, HSK⟩ := hrel
            have hrz : (r : Int) < 4294967296 := by omega
            have hvz : (v0 : Int) < 4294967296 := by omega
            by_cases hA : 4294967296 ≤ q
            · have zA : (4294967296 : Int) ≤ (q : Int) := by omega
              have hqz : (q : Int) < 18446744073709551616 := by omega
              have hdn := seek_down HSK.out (Dv.dig_big (Y := y1 * 4294967296 + y0) hv0 (by rw [← HYS.out]; exact hR1Y) hA)
              obtain ⟨q', hq'⟩ : ∃ q', q' = q - 1 := ⟨_, rfl⟩
              obtain ⟨r', hr'⟩ : ∃ r', r' = r + y1 := ⟨_, rfl⟩
              rw [← hq', ← hr'] at hdn
              have HDN := Lib.hid hdn
              have zq : (q : Int) - 1 = (q' : Int) := by omega
              have zr : (r : Int) + (y1 : Int) = (r' : Int) := by omega
              have hrr' : r < r' := by omega
              have hq64' : q' < 18446744073709551616 := by omega
              clear hdn HSK hq' hr' hq64
              by_cases hbk : 4294967296 ≤ r'
              · have zb : (4294967296 : Int) ≤ (r' : Int) := by omega
                have hq2 := Dv.dig_brk (by omega) hy0 (by rw [← HYS.out]; exact hR1Y) HDN.out.split hbk HDN.out.ge
                rw [← HYS.out] at hq2
                have hz := digit_lt hR1Y hv0 hq2
                obtain ⟨Z, X, e0, es, hX⟩ := last_words s hR1Y hYb hv0 hq2
                have HE := Lib.hid (HFIN.out q' X hq2 hX)
                clear hq2 hX
                go_wp2_with fail
                go_ret2
                exact ⟨ret_ii HE.out.1 (congrArg Nat.cast HE.out.2), 0, rfl⟩
              · have zb : ¬ (4294967296 : Int) ≤ (r' : Int) := by omega
                go_wp2
                go_roundg (4294967296 - r')
                case measure => omega
                case rel => exact ⟨q', r', rfl, rfl, rfl, by omega, Nat.le_refl _, hq64', HDN⟩
            · have zA : ¬ (4294967296 : Int) ≤ (q : Int) := by omega
              obtain ⟨p, hp⟩ : ∃ p, p = q * y0 := ⟨_, rfl⟩
              have hpb : p < 18446744073709551616 := by
                have := Nat.mul_le_mul (show q ≤ 4294967295 by omega) (show y0 ≤ 4294967295 by omega)
                omega
              have zp : IntKind.u64.wrap ((q : Int) * (y0 : Int)) = (p : Int) := by rw [Mul64.mulN, ← hp]; exact Mul64.wrapN _ hpb
              by_cases hB : 4294967296 * r + v0 < p
              · have zB : 4294967296 * (r : Int) + (v0 : Int) < (p : Int) := by omega
                have hdn := seek_down HSK.out (Dv.dig_no HSK.out.split (by rw [← hp]; exact hB))
                have hq1 : 1 ≤ q := by
                  refine Nat.pos_of_ne_zero fun e => ?_
                  subst e
                  simp at hp
                  omega
                obtain ⟨q', hq'⟩ : ∃ q', q' = q - 1 := ⟨_, rfl⟩
                obtain ⟨r', hr'⟩ : ∃ r', r' = r + y1 := ⟨_, rfl⟩
                rw [← hq', ← hr'] at hdn
                have HDN := Lib.hid hdn
                have zq : (q : Int) - 1 = (q' : Int) := by omega
                have zr : (r : Int) + (y1 : Int) = (r' : Int) := by omega
                have hrr' : r < r' := by omega
                have hq64' : q' < 18446744073709551616 := by omega
                clear hdn HSK hp hq' hr' hq64
                by_cases hbk : 4294967296 ≤ r'
                · have zb : (4294967296 : Int) ≤ (r' : Int) := by omega
                  have hq2 := Dv.dig_brk (by omega) hy0 (by rw [← HYS.out]; exact hR1Y) HDN.out.split hbk HDN.out.ge
                  rw [← HYS.out] at hq2
                  have hz := digit_lt hR1Y hv0 hq2
                  obtain ⟨Z, X, e0, es, hX⟩ := last_words s hR1Y hYb hv0 hq2
                  have HE := Lib.hid (HFIN.out q' X hq2 hX)
                  clear hq2 hX
                  go_wp2_with fail
                  go_ret2
                  exact ⟨ret_ii HE.out.1 (congrArg Nat.cast HE.out.2), 0, rfl⟩
                · have zb : ¬ (4294967296 : Int) ≤ (r' : Int) := by omega
                  go_wp2
                  go_roundg (4294967296 - r')
                  case measure => omega
                  case rel => exact ⟨q', r', rfl, rfl, rfl, by omega, Nat.le_refl _, hq64', HDN⟩
              · have zB : ¬ 4294967296 * (r : Int) + (v0 : Int) < (p : Int) := by omega
                have hq2 := Dv.dig_yes (by omega) HSK.out.split (by rw [← hp]; omega) HSK.out.ge
                clear hp
                rw [← HYS.out] at hq2
                have hz := digit_lt hR1Y hv0 hq2
                obtain ⟨Z, X, e0, es, hX⟩ := last_words s hR1Y hYb hv0 hq2
                have HE := Lib.hid (HFIN.out q X hq2 hX)
                clear hq2 hX
                go_wp2_with fail
                go_ret2
                exact ⟨ret_ii HE.out.1 (congrArg Nat.cast HE.out.2), 0, rfl⟩
        · have zb : ¬ (4294967296 : Int) ≤ (r' : Int) := by omega
          go_wp2
          go_roundg (4294967296 - r')
          case measure => omega
          case rel => exact ⟨q', r', rfl, rfl, rfl, by omega, Nat.le_refl _, hq64', HDN⟩
      · have zB : ¬ 4294967296 * (r : Int) + (v1 : Int) < (p : Int) := by omega
        have hq2 := Dv.dig_yes (by omega) HSK.out.split (by rw [← hp]; omega) HSK.out.ge
        clear hp
        rw [← HYS.out] at hq2
        have hz1 := digit_lt huY hv1 hq2
        obtain ⟨R1, hR1Y, e21, hR1⟩ := un21_word huY hYb hv1 hq2
        have HFIN := Lib.hid (fin_words HAA.out HBB.out (by omega) hq2 hR1)
        have hR1b : R1 < 18446744073709551616 := by omega
        obtain ⟨q1, m1, r1, g1, g2, g3, g4, g5, g6⟩ := guess (v := v0) (y0 := y0) hR1b hv0 hy1a hy1b
        have HSK1 := Lib.hid g4
        clear hq2 g4 hR1
        go_wp2_with fail
        go_loopg [18, 16] 4294967296 (fun g vq vr wr => ∃ q r : Nat, vq = .int .u64 q ∧ vr = .int .u64 r ∧ w = wr ∧ r < 4294967296 ∧ 4294967296 - r ≤ g ∧ q < 18446744073709551616 ∧ Hid (Seek R1 v0 y1 y0 q r))
        case atStart => exact ⟨q1, r1, rfl, rfl, rfl, g5, by omega, g6, HSK1⟩
        case round =>
          clear HSK1 g1 g2 g3 g5 g6 e21
          obtain ⟨q, r, rfl, rfl, rfl, hr, hg, hq64, HSK⟩ := hrel
          have hrz : (r : Int) < 4294967296 := by omega
          have hvz : (v0 : Int) < 4294967296 := by omega
          by_cases hA : 4294967296 ≤ q
          · have zA : (4294967296 : Int) ≤ (q : Int) := by omega
            have hqz : (q : Int) < 18446744073709551616 := by omega
            have hdn := seek_down HSK.out (Dv.dig_big (Y := y1 * 4294967296 + y0) hv0 (by rw [← HYS.out]; exact hR1Y) hA)
            obtain ⟨q', hq'⟩ : ∃ q', q' = q - 1 := ⟨_, rfl⟩
            obtain ⟨r', hr'⟩ : ∃ r', r' = r + y1 := ⟨_, rfl⟩
            rw [← hq', ← hr'] at hdn
            have HDN := Lib.hid hdn
            have zq : (q : Int) - 1 = (q' : Int) := by omega
            have zr : (r : Int) + (y1 : Int) = (r' : Int) := by omega
            have hrr' : r < r' := by omega
            have hq64' : q' < 18446744073709551616 := by omega
            clear hdn HSK hq' hr' hq64
            by_cases hbk : 4294967296 ≤ r'
            · have zb : (4294967296 : Int) ≤ (r' : Int) := by omega
              have hq2 := Dv.dig_brk (by omega) hy0 (by rw [← HYS.out]; exact hR1Y) HDN.out.split hbk HDN.out.ge
              rw [← HYS.out] at hq2
              have hz := digit_lt hR1Y hv0 hq2
              obtain ⟨Z, X, e0, es, hX⟩ := last_words s hR1Y hYb hv0 hq2
              have HE := Lib.hid (HFIN.out q' X hq2 hX)
              clear hq2 hX
              go_wp2_with fail
              go_ret2
              exact ⟨ret_ii HE.out.1 (congrArg Nat.cast HE.out.2), 0, rfl⟩
            · have zb : ¬ (4294967296 : Int) ≤ (r' : Int) := by omega
              go_wp2
              go_roundg (4294967296 - r')
              case measure => omega
              case rel => exact ⟨q', r', rfl, rfl, rfl, by omega, Nat.le_refl _, hq64', HDN⟩
          · have zA : ¬ (4294967296 : Int) ≤ (q : Int) := by omega
            obtain ⟨p, hp⟩ : ∃ p, p = q * y0 := ⟨_, rfl⟩
            have hpb : p < 18446744073709551616 := by
              have := Nat.mul_le_mul (show q ≤ 4294967295 by omega) (show y0 ≤ 4294967295 by omega)
              omega
            have zp : IntKind.u64.wrap ((q : Int) * (y0 : Int)) = (p : Int) := by rw [Mul64.mulN, ← hp]; exact Mul64.wrapN _ hpb
            by_cases hB : 4294967296 * r + v0 < p
            · have zB : 4294967296 * (r : Int) + (v0 : Int) < (p : Int) := by omega
              have hdn := seek_down HSK.out (Dv.dig_no HSK.out.split (by rw [← hp]; exact hB))
              have hq1 : 1 ≤ q := by
                refine Nat.pos_of_ne_zero fun e => ?_
                subst e
                simp at hp
                omega
              obtain ⟨q', hq'⟩ : ∃ q', q' = q - 1 := ⟨_, rfl⟩
              obtain ⟨r', hr'⟩ : ∃ r', r' = r + y1 := ⟨_, rfl⟩
              rw [← hq', ← hr'] at hdn
              have HDN := Lib.hid hdn
              have zq : (q : Int) - 1 = (q' : Int) := by omega
              have zr : (r : Int) + (y1 : Int) = (r' : Int) := by omega
              have hrr' : r < r' := by omega
              have hq64' : q' < 18446744073709551616 := by omega
              clear hdn HSK hp hq' hr' hq64
              by_cases hbk : 4294967296 ≤ r'
              · have zb : (4294967296 : Int) ≤ (r' : Int) := by omega
                have hq2 := Dv.dig_brk (by omega) hy0 (by rw [← HYS.out]; exact hR1Y) HDN.out.split hbk HDN.out.ge
                rw [← HYS.out] at hq2
                have hz := digit_lt hR1Y hv0 hq2
                obtain ⟨Z, X, e0, es, hX⟩ := last_words s hR1Y hYb hv0 hq2
                have HE := Lib.hid (HFIN.out q' X hq2 hX)
                clear hq2 hX
                go_wp2_with fail
                go_ret2
                exact ⟨ret_ii HE.out.1 (congrArg Nat.cast HE.out.2), 0, rfl⟩
              · have zb : ¬ (4294967296 : Int) ≤ (r' : Int) := by omega
                go_wp2
                go_roundg (4294967296 - r')
                case measure => omega
                case rel => exact ⟨q', r', rfl, rfl, rfl, by omega, Nat.le_refl _, hq64', HDN⟩
            · have zB : ¬ 4294967296 * (r : Int) + (v0 : Int) < (p : Int) := by omega
              have hq2 := Dv.dig_yes (by omega) HSK.out.split (by rw [← hp]; omega) HSK.out.ge
              clear hp
              rw [← HYS.out] at hq2
              have hz := digit_lt hR1Y hv0 hq2
              obtain ⟨Z, X, e0, es, hX⟩ := last_words s hR1Y hYb hv0 hq2
              have HE := Lib.hid (HFIN.out q X hq2 hX)
              clear hq2 hX
              go_wp2_with fail
              go_ret2
              exact ⟨ret_ii HE.out.1 (congrArg Nat.cast HE.out.2), 0, rfl⟩

end Go.Proofs.Ytdiogfjbjdiclaa
