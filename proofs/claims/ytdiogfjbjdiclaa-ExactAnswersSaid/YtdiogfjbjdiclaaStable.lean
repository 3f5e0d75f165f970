/- slices.SortStableFunc at fewer than 65 ints, by greatestFirst's comparison. -/
import Derived.Test.YtdiogfjbjdiclaaSymAll
namespace Go.Proofs.Ytdiogfjbjdiclaa
open Go.RowKit Go.Sort Go.Shelf Go.Lib
variable {α : Type} [Inhabited α] {enc : α → Value} {w0 : World} {blk off : Nat} {d0 : Array α}

set_option maxHeartbeats 4000000 in
set_option maxRecDepth 100000 in
theorem stableCmp_any (L : α → α → Bool) (hL : SWO L) (cf : α → α → Int) (n cap : Nat) (fv : Value) (w : World) (hn : n < 65) (hs : d0.size = n) (S : SW enc w0 blk off d0 w)
    (hA : ∀ p q, p < q → q < n → ltOf cf d0[q]! d0[p]! = L d0[q]! d0[p]!)
    (hI : ∀ (a b : Nat) (d : Array α) (w1 : World), d.size = n → SW enc w0 blk off d w1 → a ≤ b → b ≤ n → Calls Try.prog 45 #[.slice (some ⟨blk, off, none⟩) n cap, .int .i64 a, .int .i64 b, fv] w1 fun e w' => e = .returned (.tuple #[]) ∧ SW enc w0 blk off (insertionSort (ltOf cf) d a b) w')
    (hM : ∀ (a m b : Nat) (d : Array α) (w1 : World), d.size = n → SW enc w0 blk off d w1 → a < m → m < b → b ≤ n → Runs (ltOf cf) L a m b d → Calls Try.prog 46 #[.slice (some ⟨blk, off, none⟩) n cap, .int .i64 a, .int .i64 m, .int .i64 b, fv] w1 fun e w' => e = .returned (.tuple #[]) ∧ Merged enc w0 blk off L a b d w') :
    Calls Try.prog 43 #[.slice (some ⟨blk, off, none⟩) n cap, .int .i64 n, fv] w fun e w' => e = .returned (.tuple #[]) ∧ Merged enc w0 blk off L 0 n d0 w' := by
  have S0 : Aside (SW enc w0 blk off d0 w) := S
  have HI := Lib.hid hI
  have HM := Lib.hid hM
  have HL : Aside (SWO L) := hL
  have F0 : First (ltOf cf) L n d0 0 d0 := ⟨fun _ _ _ => rfl, fun p q h1 h2 => by omega, fun p q h1 h2 _ => hA p q h1 h2, permIn_refl _ _ _⟩
  have HF0 := Lib.hid F0
  have HS := Lib.hid hs
  have HA := Lib.hid hA
  have hnz : (n : Int) < 65 := by omega
  clear S hI hM hL F0 hs hA
  go_enter Try.func43, Try.ntmps43
  go_wp2
  go_loopg [7, 8] n (fun g va vb wr => ∃ (a : Nat) (d : Array α), va = .int .i64 a ∧ vb = .int .i64 ((a : Int) + 20) ∧ a % 20 = 0 ∧ a ≤ n ∧ n - a ≤ g ∧ Hid (First (ltOf cf) L n d0 a d) ∧ Aside (SW enc w0 blk off d wr))
  case atStart => exact ⟨0, d0, rfl, by go_num, rfl, by omega, by omega, HF0, S0⟩
  case round =>
    clear S0 HF0
    obtain ⟨a, d, rfl, rfl, ha20, han, hg, HF, S1⟩ := hrel
    have hsd : d.size = n := HF.out.perm.1.trans HS.out
    by_cases hlt : a + 20 ≤ n
    · have hltz : (a : Int) + 20 ≤ (n : Int) := by omega
      have hc := HI.out a (a + 20) d wr hsd S1.out (by omega) hlt
      have e1 : ((a + 20 : Nat) : Int) = (a : Int) + 20 := by omega
      rw [e1] at hc
      have hto := insertionSort_to (ltOf cf) L HL.out a (a + 20) d (by omega) (by omega) (fun p q h1 h2 h3 => by
        rw [HF.out.same p (by omega) (by omega), HF.out.same q (by omega) (by omega)]; exact HA.out p q h2 (by omega))
      have HF2 := Lib.hid (first_step (by rw [HS.out]; omega) HF.out ha20 (by omega) (by omega) hlt hto)
      have HCC := Lib.hid hc
      clear hc e1 hto hsd
      generalize insertionSort (ltOf cf) d a (a + 20) = d2 at HF2 HCC
      go_wp2_with fail
      refine (HCC.out).mono ?_
      rintro e w' ⟨rfl, hS⟩
      have S2 : Aside _ := hS
      clear hS
      go_wp2_with fail
      go_roundg (n - (a + 20))
      case measure => omega
      case rel => exact ⟨a + 20, d2, by go_num, by go_num, by omega, hlt, Nat.le_refl _, HF2, S2⟩
    · have hltz : ¬ (a : Int) + 20 ≤ (n : Int) := by omega
      have hc := HI.out a n d wr hsd S1.out han (Nat.le_refl _)
      have hto := insertionSort_to (ltOf cf) L HL.out a n d han (by omega) (fun p q h1 h2 h3 => by
        rw [HF.out.same p (by omega) (by omega), HF.out.same q (by omega) (by omega)]; exact HA.out p q h2 (by omega))
      have HO := Lib.hid (outer_first (first_step (by rw [HS.out]; omega) HF.out ha20 han (by omega) (Nat.le_refl _) hto))
      have HCC := Lib.hid hc
      clear hc hto hsd HF S1
      generalize insertionSort (ltOf cf) d a n = d2 at HO HCC
      go_wp2_with fail
      refine (HCC.out).mono ?_
      rintro e w' ⟨rfl, hS⟩
      have S2 : Aside _ := hS
      clear hS HCC
      go_wp2_with fail
      go_loopg [6] 60 (fun g vh wr => ∃ (h : Nat) (d : Array α), vh = .int .i64 h ∧ (h = 20 ∨ h = 40 ∨ h = 80) ∧ 80 - h ≤ g ∧ Hid (Outer (ltOf cf) L n d0 h d) ∧ Aside (SW enc w0 blk off d wr))
      case atStart => exact ⟨20, d2, by go_num, Or.inl rfl, by omega, HO, S2⟩
      case round =>
        clear S2 HO
        obtain ⟨h, d, rfl, hh, hg2, HO, S2⟩ := hrel
        by_cases hhn : h < n
        · have hh2 : h = 20 ∨ h = 40 := by omega
          have hhz : (h : Int) < (n : Int) := by omega
          have hh0 : (20 : Int) ≤ (h : Int) := by omega
          have HN0 := Lib.hid (next_start hh2 HO.out)
          clear HO
          go_wp2
          go_loopg [7, 8] n (fun g va vb wr => ∃ (a : Nat) (d : Array α), va = .int .i64 a ∧ vb = .int .i64 ((a : Int) + 2 * (h : Int)) ∧ Hid (a % (2 * h) = 0) ∧ a ≤ n ∧ n - a ≤ g ∧ Hid (Next (ltOf cf) L n d0 h a d) ∧ Aside (SW enc w0 blk off d wr))
          case atStart => exact ⟨0, d, rfl, by go_num, Nat.zero_mod _, by omega, by omega, HN0, S2⟩
          case round =>
            clear S2 HN0
            obtain ⟨a, d, rfl, rfl, ham, han, hg3, HN, S3⟩ := hrel
            have hsd : d.size = n := HN.out.perm.1.trans HS.out
            by_cases hlt2 : a + 2 * h ≤ n
            · have hltz2 : (a : Int) + 2 * (h : Int) ≤ (n : Int) := by omega
              have hc := HM.out a (a + h) (a + 2 * h) d wr hsd S3.out (by omega) (by omega) hlt2 (next_runs hh2 HN.out ham.out (by omega) (Nat.le_refl _) hlt2)
              have e1 : ((a + h : Nat) : Int) = (a : Int) + (h : Int) := by omega
              have e2 : ((a + 2 * h : Nat) : Int) = (a : Int) + 2 * (h : Int) := by omega
              rw [e1, e2] at hc
              have HCC := Lib.hid hc
              clear hc e1 e2 hsd
              go_wp2_with fail
              refine (HCC.out).mono ?_
              rintro e w' ⟨rfl, d3, hto, hS⟩
              have S4 : Aside _ := hS
              have HN2 := Lib.hid (next_step hh2 (by rw [HS.out]; omega) HN.out ham.out (by omega) (Or.inl rfl) hlt2 hto)
              have ham2 : Hid ((a + 2 * h) % (2 * h) = 0) := by show _ = _; rw [Nat.add_mod_right]; exact ham.out
              clear hS hto HCC
              go_wp2_with fail
              go_roundg (n - (a + 2 * h))
              case measure => omega
              case rel => exact ⟨a + 2 * h, d3, by go_num, by go_num, ham2, hlt2, Nat.le_refl _, HN2, S4⟩
            · have hltz2 : ¬ (a : Int) + 2 * (h : Int) ≤ (n : Int) := by omega
              by_cases hm : a + h < n
              · have hmz : (a : Int) + (h : Int) < (n : Int) := by omega
                have hc := HM.out a (a + h) n d wr hsd S3.out (by omega) hm (Nat.le_refl _) (next_runs hh2 HN.out ham.out (by omega) (by omega) (Nat.le_refl _))
                have e1 : ((a + h : Nat) : Int) = (a : Int) + (h : Int) := by omega
                rw [e1] at hc
                have HCC := Lib.hid hc
                clear hc e1 hsd
                go_wp2_with fail
                refine (HCC.out).mono ?_
                rintro e w' ⟨rfl, d3, hto, hS⟩
                have S4 : Aside _ := hS
                have HO2 := Lib.hid (outer_next (next_step hh2 (by rw [HS.out]; omega) HN.out ham.out han (Or.inr ⟨rfl, by omega⟩) (Nat.le_refl _) hto))
                clear hS hto HCC
                go_wp2_with fail
                go_roundg (80 - 2 * h)
                case measure => omega
                case rel => exact ⟨2 * h, d3, by go_num, by omega, Nat.le_refl _, HO2, S4⟩
              · have hmz : ¬ (a : Int) + (h : Int) < (n : Int) := by omega
                have hto := sortedTo_refl (next_last hh2 HN.out ham.out (by omega))
                have HO2 := Lib.hid (outer_next (next_step hh2 (by rw [HS.out]; omega) HN.out ham.out han (Or.inr ⟨rfl, by omega⟩) (Nat.le_refl _) hto))
                clear hto hsd
                go_wp2_with fail
                go_roundg (80 - 2 * h)
                case measure => omega
                case rel => exact ⟨2 * h, d, by go_num, by omega, Nat.le_refl _, HO2, S3⟩
        · have hhz : ¬ (h : Int) < (n : Int) := by omega
          have hfin := blocks_end (by omega) HO.out
          have HFN := Lib.hid hfin
          clear hfin HO
          go_wp2_with fail
          go_end0
          exact ⟨rfl, d, HFN.out, S2.out⟩

theorem stable_all (k : Nat) (hk : k + 1 < 65) : StableSaid k := by
  intro rem w blk off cap B rb ro rc d hd hH hblk R hA
  have hC := (cmpReads_any (rem := rem) off d.size (by omega) R).lays
  have R1 : Row1 encF w blk off d := ⟨fun _ => rfl, hH, hblk⟩
  refine sortStable_of (k + 1) _ cap _ w _ ?_
  refine stableCmp_any (d0 := d) (ordF rem) (swo_ordF rem) (cfF rem) (k + 1) cap _ w hk hd (SW.start hH) (fun p q h1 h2 => hA p q (Nat.zero_le _) h1 h2) ?_ ?_
  · intro a b d1 w1 hd1 S1 hab hb
    exact insertion_any rem w w1 blk off cap B rb ro rc a b d d1 (by omega) hd hd1 hH hblk R S1 hab hb
  · intro a m b d1 w1 hd1 S1 ham hmb hb hR
    have h := sym_any (ordF rem) (swo_ordF rem) (cfF rem) 41 #[.pointer (some ⟨B, 0, none⟩)] enters_cmp hC R1 cap (by omega) (b - a) a m b d1 w1 (Nat.le_refl _) (by omega) S1 ham hmb (by omega) hR
    rw [hd] at h
    exact h

end Go.Proofs.Ytdiogfjbjdiclaa
