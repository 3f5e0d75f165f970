/- The walk of ExactShares. -/
import Derived.Test.YtdiogfjbjdiclaaShareLaw
import Derived.Test.YtdiogfjbjdiclaaPost
namespace Go.Proofs.Ytdiogfjbjdiclaa
open Go.RowKit Go.Sort Go.Shelf Go.Lib

theorem ownsRow_ge {w : World} {base : Nat} {e : TypeId} {size : Nat} {v : Value} {n : Nat} {xs : List Value} (h : w.ownsRow base e size v n xs) : ∀ k, v.ownBlock = some k → base ≤ k := by
  intro k hk
  rcases h.2 with ⟨rfl, _⟩ | ⟨g, cap, cur, rfl, hb, _⟩
  · simp [Value.ownBlock] at hk
  · simp [Value.ownBlock] at hk; omega

theorem ownsRow_cells {w : World} {base : Nat} {e : TypeId} {v : Value} {n : Nat} {xs : List Value} (h : w.ownsRow base e 1 v n xs) (hn : 0 < n) :
    ∃ g cap, v = .slice (some ⟨g, 0, none⟩) n cap ∧ base ≤ g ∧ g < w.heap.size ∧ ∀ j u, j < n → xs[j]? = some u → w.cell? ⟨g, 0 + j, none⟩ = some u := by
  obtain ⟨hl, h⟩ := h
  rcases h with ⟨_, h0⟩ | ⟨g, cap, cur, rfl, hb, hh, hnc, _, hcs, hx⟩
  · omega
  · refine ⟨g, cap, rfl, hb, (Array.getElem?_eq_some_iff.1 hh).1, fun j u hj hu => ?_⟩
    rw [← hx, List.getElem?_take_of_lt (by omega)] at hu
    simp only [World.cell?, Nat.zero_add]
    rw [hh]
    simpa using hu

/-- The first loop: the first i weights are in a row of the call's own. -/
structure Built (W w : World) (ws : Nat → Nat) (i : Nat) (v : Value) : Prop where
  below : Below W.heap.size W w
  owns : w.ownsRow W.heap.size 3 1 v i ((List.range i).map fun j => Value.int .i64 (ws j))

theorem Built.next {W w w1 : World} {ws : Nat → Nat} {i : Nat} {v v' : Value} {o : Obj} (h : Built W w ws i v) (h1 : w1.ownsRow W.heap.size 3 1 v' (i + 1) (((List.range i).map fun j => Value.int .i64 (ws j)) ++ [Value.int .i64 (ws i)])) (h2 : (w.alloc o).grownBy w1 v.ownBlock) : Built W w1 ws (i + 1) v' :=
  ⟨(h.below.alloc h.below.size o).grown h2 (by have := h.below.size; simp; omega) (ownsRow_ge h.owns), by rw [List.range_succ, List.map_append]; exact h1⟩

theorem mul_low {T l : Nat} (hT : T ≤ 4294967295) (hl : l ≤ 65535) : T * l ≤ 281470681677825 := by
  have := Nat.mul_le_mul hT hl
  omega
theorem share_low {T l : Nat} (hT : T ≤ 4294967295) (hl : l ≤ 65535) : T * l < 18446744073709551616 := by
  have := mul_low hT hl
  omega
theorem wrap_div {T l S b : Nat} (hp : T * l ≤ 281470681677825) (hb : b = T * l / S) : wrap64 ((T : Int) * (l : Int)) = ((T * l : Nat) : Int) ∧ ((T * l : Nat) : Int) / (S : Int) = (b : Int) := by
  have e : (T : Int) * (l : Int) = ((T * l : Nat) : Int) := (Int.natCast_mul T l).symm
  rw [e]
  generalize T * l = p at *
  exact ⟨wrap_in (by omega) (by omega), by rw [hb]; rfl⟩

set_option maxHeartbeats 4000000 in
set_option maxRecDepth 100000 in
theorem share_some (T n b off cap : Nat) (hT : T ≤ 4294967295) (hn0 : 0 < n) (hn : n ≤ maxLen) (ws : Nat → Nat) (W : World) (hb : b < W.heap.size) (hw : ∀ j, j < n → ws j ≤ 65535 ∧ W.cell? ⟨b, off + j, none⟩ = some (.int .u16 (ws j))) :
    Calls Try.prog 6 #[.int .u32 T, .slice (some ⟨b, off, none⟩) n cap] W fun e w' => e = .returned (.bool true) ∧ Below W.heap.size W w' := by
  unfold maxLen at hn
  obtain ⟨i0, hi, hz0, hz1, hz2⟩ := info_parts info_int
  have HW := Lib.hid hw
  have hTz : (T : Int) ≤ 4294967295 := by omega
  have hnz : (n : Int) ≤ 9223372036854775807 := by omega
  clear hw
  go_enter Try.func6, Try.ntmps6
  go_wp2
  go_loopw [5, 6, 7] (fun v5 v6 v7 wr => ∃ i : Nat, i ≤ n ∧ i ≤ 64 ∧ v7 = .int .i64 i ∧ v6 = .int .i64 (sumTo ws i : Nat) ∧ Built W wr ws i v5 ∧ sumTo ws i ≤ i * 65535) (fun _ _ v _ => 64 - (intOf v).toNat)
  case atStart => exact ⟨0, Nat.zero_le _, Nat.zero_le _, rfl, rfl, ⟨Below.refl _ _, ⟨rfl, Or.inl ⟨rfl, rfl⟩⟩⟩, Nat.le_refl _⟩
  case round =>
    obtain ⟨i, hin, hi64, rfl, rfl, HB, hsm⟩ := hrel
    by_cases h1 : i < n
    · by_cases h2 : i < 64
      · have z1 : (i : Int) < (n : Int) := by omega
        have z2 : (i : Int) < 64 := by omega
        have z0 : (0 : Int) ≤ (i : Int) := by omega
        have hc : wr.cell? ⟨b, off + i, none⟩ = some (.int .u16 (ws i)) := by rw [HB.below.cell (by exact hb)]; exact (HW.out i h1).2
        have hwi := (HW.out i h1).1
        have hown := HB.owns
        have hs2 : sumTo ws (i + 1) = sumTo ws i + ws i := rfl
        have HS2 := Lib.hid hs2
        clear hs2
        generalize hxs : ((List.range i).map fun j => Value.int .i64 (ws j)) = xs at hown
        go_wp2_with (first | (at_builtin; refine wpList_append_own _ rfl _ _ 22 rfl W.heap.size 3 i0 (.int .i64 0) 1 8 Try.underlying22 hi hz0 hz1 hz2 rfl (by decide) _ _ _ rfl (hown.alloc _) ⟨wr.heap.size, 0, none⟩ 1 1 [.int .i64 (ws i)] rfl rfl ?c1 ?c2 ?c3 ?c4 ?c5 ?_))
        case c1 =>
          intro j u hu
          cases j with
          | zero => simp at hu; subst hu; simp [Addr.add]
          | succ j => simp at hu
        case c2 => intro u hu; simp at hu; subst hu; rfl
        case c3 => unfold maxLen; omega
        case c4 => omega
        case c5 => have := HB.below.size; simp; omega
        intro v' w1 hown1 hgrow _
        subst hxs
        have HB2 : Built W w1 ws (i + 1) v' := HB.next hown1 hgrow
        have hc2 : w1.cell? ⟨b, off + i, none⟩ = some (.int .u16 (ws i)) := by rw [HB2.below.cell (by exact hb)]; exact (HW.out i h1).2
        clear hown hown1 hgrow HB hc
        go_wp2
        go_roundw
        case rel => exact ⟨i + 1, by omega, by omega, by go_num, by rw [HS2.out]; go_num, HB2, by rw [HS2.out]; omega⟩
        case measure => simp [intOf]; omega
      · have z1 : (i : Int) < (n : Int) := by omega
        have z2 : ¬ (i : Int) < 64 := by omega
        have hi0 : 0 < i := by omega
        obtain ⟨g, gc, rfl, hgb, hgl, hgc⟩ := ownsRow_cells HB.owns hi0
        have hwj : ∀ j, j < i → ws j ≤ 65535 := fun j hj => (HW.out j (by omega)).1
        have hcl : ∀ j, j < i → wr.cell? ⟨g, 0 + j, none⟩ = some (.int .i64 (ws j)) := fun j hj => hgc j _ hj (by simp [hj])
        have HCL := Lib.hid hcl
        have HWJ := Lib.hid hwj
        have hbel := HB.below
        clear hgc hcl hwj HB
        by_cases hS : sumTo ws i = 0
        · have hz : ∀ j, j < i → wr.cell? ⟨g, 0 + j, none⟩ = some (.int .i64 0) := fun j hj => by
            have := HCL.out j hj
            rw [sumTo_zero ws i hS j hj] at this
            exact this
          have hSh := shares_zero i (by omega) T (by omega) g 0 gc wr hz
          have HSH := Lib.hid hSh
          rw [hS]
          clear hz hSh hS hsm
          go_wp2_with fail
          refine (HSH.out).mono ?_
          rintro e w' ⟨rfl, hb2, hr⟩
          have HR := Lib.hid hr
          have hbw : Below W.heap.size W w' := hbel.trans (hb2.mono hbel.size)
          clear hr
          go_wp2_with fail
          go_loop [10, 56] (fun va v => ∃ j : Nat, j ≤ i ∧ v = .int .i64 j ∧ va = .int .i64 0) (fun _ v => i - (intOf v).toNat)
          case atStart => exact ⟨0, Nat.zero_le _, rfl, rfl⟩
          case round =>
            obtain ⟨j, hj, rfl, rfl⟩ := hrel
            by_cases hji : j < i
            · have hc := HR.out.cell hji
              go_wp2
              go_round
              case rel => exact ⟨j + 1, by omega, by go_num, rfl⟩
              case measure => simp [intOf]; omega
            · obtain rfl : j = i := by omega
              by_cases hT0 : T = 0
              · subst hT0
                go_wp2_with (go_at_call 8; (with_reducible refine (awake_any _).mono ?_); rintro e w2 ⟨rfl, hb3⟩)
                go_ret
                exact ⟨ret_bool (by simp), hbw.trans (hb3.mono hbw.size)⟩
              · have hT1 : ((0 : Int) == (T : Int)) = false := beq_eq_false_iff_ne.2 (by omega)
                have hT2 : ((T : Int) == 0) = false := beq_eq_false_iff_ne.2 (by omega)
                go_wp2_with (go_at_call 8; (with_reducible refine (awake_any _).mono ?_); rintro e w2 ⟨rfl, hb3⟩)
                go_ret
                exact ⟨ret_bool (by simp), hbw.trans (hb3.mono hbw.size)⟩
        · have hSh := shares_ok i hi0 (by omega) (stable_all (i - 1) (by omega)) T (by omega) ws (fun j hj => by have := HWJ.out j hj; omega) (by omega) g 0 gc wr
            (fun j hj => divOk_low _ _ (share_low hT (HWJ.out j hj)) (by omega)) hgl HCL.out
          have HSH := Lib.hid hSh
          have hS1 : 0 < sumTo ws i := by omega
          have HSM : Hid (sumTo ws i = sumTo ws i) := rfl
          clear hSh hS
          go_wp2_with fail
          refine (HSH.out).mono ?_
          rintro e w' ⟨rfl, f, hO, hb2, _, hf, hr⟩
          have HR := Lib.hid hr
          have hfa := share_facts i T (sumTo ws i) hS1 ws f rfl hO hf
          have HFA := Lib.hid hfa
          have HC2 : Hid (∀ j, j < i → w'.cell? ⟨g, 0 + j, none⟩ = some (.int .i64 (ws j))) := fun j hj => by rw [hb2.cell (by exact hgl)]; exact HCL.out j hj
          have HBS : Hid (∀ j, j < i → baseF T (sumTo ws i) ws j ≤ T) := fun j hj => base_le T (sumTo ws i) i ws rfl j hj
          have hbw : Below W.heap.size W w' := hbel.trans (hb2.mono hbel.size)
          have HBD : Hid (∀ j, baseF T (sumTo ws i) ws j = T * ws j / sumTo ws i) := fun j => rfl
          generalize hsh : (fun j => baseF T (sumTo ws i) ws j + among f (T - sumTo (baseF T (sumTo ws i) ws) i) j) = sh at HFA
          have HSHJ : Hid (∀ j, sh j = baseF T (sumTo ws i) ws j + among f (T - sumTo (baseF T (sumTo ws i) ws) i) j) := fun j => by rw [← hsh]
          clear hr hfa hO hf hsh HSH HCL hb2 HSM
          generalize sumTo ws i = S at *
          have hSz : (0 : Int) < (S : Int) := by omega
          go_wp2_with fail
          go_loop [10, 56] (fun va v => ∃ j : Nat, j ≤ i ∧ v = .int .i64 j ∧ va = .int .i64 (sumTo sh j : Nat)) (fun _ v => i - (intOf v).toNat)
          case atStart => exact ⟨0, Nat.zero_le _, rfl, rfl⟩
          case round =>
            obtain ⟨j, hj, rfl, rfl⟩ := hrel
            by_cases hji : j < i
            · have hc0 := HR.out.cell hji
              have hc2 := HC2.out j hji
              rw [Nat.zero_add] at hc2
              have hle : sumTo sh (j + 1) ≤ T := by
                have := sumTo_le sh (show j + 1 ≤ i from hji)
                rw [HFA.out.1] at this; exact this
              have hss : sumTo sh (j + 1) = sumTo sh j + sh j := rfl
              rw [hss] at hle
              have HSS := Lib.hid hss
              have hfj := HFA.out.2 j hji
              have hbj := HBS.out j hji
              have hwj := HWJ.out j hji
              have hpr := mul_low hT hwj
              have hbd := HBD.out j
              rw [← HSHJ.out j] at hc0 hfj
              have hsj := HSHJ.out j
              generalize sh j = sj at *
              generalize baseF T S ws j = bj at *
              generalize among f (T - sumTo (baseF T S ws) i) j = am at *
              obtain ⟨w1, e1⟩ := wrap_div hpr hbd
              clear hbd hpr hss
              generalize ws j = wj at *
              generalize T * wj = pr at *
              obtain ⟨ha, hz⟩ := hfj
              clear HFA HR HC2 HWJ HBS HBD HSHJ HW
              have hm1 : (0 : Int) ≤ (bj : Int) := by omega
              rcases ha with rfl | rfl
              · rw [Nat.add_zero] at hsj
                subst hsj
                by_cases hw0 : wj = 0
                · have hs0 := hz hw0
                  subst hw0
                  subst hs0
                  clear hz
                  go_wp2
                  go_round
                  case rel => exact ⟨j + 1, by omega, by go_num, by rw [HSS.out]; go_num⟩
                  case measure => simp [intOf]; omega
                · have hwz : ((wj : Int) == 0) = false := beq_eq_false_iff_ne.2 (by omega)
                  clear hz
                  go_wp2
                  go_round
                  case rel => exact ⟨j + 1, by omega, by go_num, by rw [HSS.out]; go_num⟩
                  case measure => simp [intOf]; omega
              · subst hsj
                have hw0 : wj ≠ 0 := fun h => by have := hz h; omega
                have hwz : ((wj : Int) == 0) = false := beq_eq_false_iff_ne.2 (by omega)
                clear hz hw0
                go_wp2
                go_round
                case rel => exact ⟨j + 1, by omega, by go_num, by rw [HSS.out]; go_num⟩
                case measure => simp [intOf]; omega
            · obtain rfl : j = i := by omega
              have hfin := HFA.out.1
              rw [hfin]
              clear hfin HFA HR HC2 HWJ HBS HBD HSHJ HW
              go_wp2_with (go_at_call 8; (with_reducible refine (awake_any _).mono ?_); rintro e w2 ⟨rfl, hb3⟩)
              go_ret
              exact ⟨ret_bool (by simp), hbw.trans (hb3.mono hbw.size)⟩
    · have z1 : ¬ (i : Int) < (n : Int) := by omega
      have hi0 : 0 < i := by omega
      obtain ⟨g, gc, rfl, hgb, hgl, hgc⟩ := ownsRow_cells HB.owns hi0
      have hwj : ∀ j, j < i → ws j ≤ 65535 := fun j hj => (HW.out j (by omega)).1
      have hcl : ∀ j, j < i → wr.cell? ⟨g, 0 + j, none⟩ = some (.int .i64 (ws j)) := fun j hj => hgc j _ hj (by simp [hj])
      have HCL := Lib.hid hcl
      have HWJ := Lib.hid hwj
      have hbel := HB.below
      clear hgc hcl hwj HB
      by_cases hS : sumTo ws i = 0
      · have hz : ∀ j, j < i → wr.cell? ⟨g, 0 + j, none⟩ = some (.int .i64 0) := fun j hj => by
          have := HCL.out j hj
          rw [sumTo_zero ws i hS j hj] at this
          exact this
        have hSh := shares_zero i (by omega) T (by omega) g 0 gc wr hz
        have HSH := Lib.hid hSh
        rw [hS]
        clear hz hSh hS hsm
        go_wp2_with fail
        refine (HSH.out).mono ?_
        rintro e w' ⟨rfl, hb2, hr⟩
        have HR := Lib.hid hr
        have hbw : Below W.heap.size W w' := hbel.trans (hb2.mono hbel.size)
        clear hr
        go_wp2_with fail
        go_loop [10, 56] (fun va v => ∃ j : Nat, j ≤ i ∧ v = .int .i64 j ∧ va = .int .i64 0) (fun _ v => i - (intOf v).toNat)
        case atStart => exact ⟨0, Nat.zero_le _, rfl, rfl⟩
        case round =>
          obtain ⟨j, hj, rfl, rfl⟩ := hrel
          by_cases hji : j < i
          · have hc := HR.out.cell hji
            go_wp2
            go_round
            case rel => exact ⟨j + 1, by omega, by go_num, rfl⟩
            case measure => simp [intOf]; omega
          · obtain rfl : j = i := by omega
            by_cases hT0 : T = 0
            · subst hT0
              go_wp2_with (go_at_call 8; (with_reducible refine (awake_any _).mono ?_); rintro e w2 ⟨rfl, hb3⟩)
              go_ret
              exact ⟨ret_bool (by simp), hbw.trans (hb3.mono hbw.size)⟩
            · have hT1 : ((0 : Int) == (T : Int)) = false := beq_eq_false_iff_ne.2 (by omega)
              have hT2 : ((T : Int) == 0) = false := beq_eq_false_iff_ne.2 (by omega)
              go_wp2_with (go_at_call 8; (with_reducible refine (awake_any _).mono ?_); rintro e w2 ⟨rfl, hb3⟩)
              go_ret
              exact ⟨ret_bool (by simp), hbw.trans (hb3.mono hbw.size)⟩
      · have hSh := shares_ok i hi0 (by omega) (stable_all (i - 1) (by omega)) T (by omega) ws (fun j hj => by have := HWJ.out j hj; omega) (by omega) g 0 gc wr
          (fun j hj => divOk_low _ _ (share_low hT (HWJ.out j hj)) (by omega)) hgl HCL.out
        have HSH := Lib.hid hSh
        have hS1 : 0 < sumTo ws i := by omega
        have HSM : Hid (sumTo ws i = sumTo ws i) := rfl
        clear hSh hS
        go_wp2_with fail
        refine (HSH.out).mono ?_
        rintro e w' ⟨rfl, f, hO, hb2, _, hf, hr⟩
        have HR := Lib.hid hr
        have hfa := share_facts i T (sumTo ws i) hS1 ws f rfl hO hf
        have HFA := Lib.hid hfa
        have HC2 : Hid (∀ j, j < i → w'.cell? ⟨g, 0 + j, none⟩ = some (.int .i64 (ws j))) := fun j hj => by rw [hb2.cell (by exact hgl)]; exact HCL.out j hj
        have HBS : Hid (∀ j, j < i → baseF T (sumTo ws i) ws j ≤ T) := fun j hj => base_le T (sumTo ws i) i ws rfl j hj
        have hbw : Below W.heap.size W w' := hbel.trans (hb2.mono hbel.size)
        have HBD : Hid (∀ j, baseF T (sumTo ws i) ws j = T * ws j / sumTo ws i) := fun j => rfl
        generalize hsh : (fun j => baseF T (sumTo ws i) ws j + among f (T - sumTo (baseF T (sumTo ws i) ws) i) j) = sh at HFA
        have HSHJ : Hid (∀ j, sh j = baseF T (sumTo ws i) ws j + among f (T - sumTo (baseF T (sumTo ws i) ws) i) j) := fun j => by rw [← hsh]
        clear hr hfa hO hf hsh HSH HCL hb2 HSM
        generalize sumTo ws i = S at *
        have hSz : (0 : Int) < (S : Int) := by omega
        go_wp2_with fail
        go_loop [10, 56] (fun va v => ∃ j : Nat, j ≤ i ∧ v = .int .i64 j ∧ va = .int .i64 (sumTo sh j : Nat)) (fun _ v => i - (intOf v).toNat)
        case atStart => exact ⟨0, Nat.zero_le _, rfl, rfl⟩
        case round =>
          obtain ⟨j, hj, rfl, rfl⟩ := hrel
          by_cases hji : j < i
          · have hc0 := HR.out.cell hji
            have hc2 := HC2.out j hji
            rw [Nat.zero_add] at hc2
            have hle : sumTo sh (j + 1) ≤ T := by
              have := sumTo_le sh (show j + 1 ≤ i from hji)
              rw [HFA.out.1] at this; exact this
            have hss : sumTo sh (j + 1) = sumTo sh j + sh j := rfl
            rw [hss] at hle
            have HSS := Lib.hid hss
            have hfj := HFA.out.2 j hji
            have hbj := HBS.out j hji
            have hwj := HWJ.out j hji
            have hpr := mul_low hT hwj
            have hbd := HBD.out j
            rw [← HSHJ.out j] at hc0 hfj
            have hsj := HSHJ.out j
            generalize sh j = sj at *
            generalize baseF T S ws j = bj at *
            generalize among f (T - sumTo (baseF T S ws) i) j = am at *
            obtain ⟨w1, e1⟩ := wrap_div hpr hbd
            clear hbd hpr hss
            generalize ws j = wj at *
            generalize T * wj = pr at *
            obtain ⟨ha, hz⟩ := hfj
            clear HFA HR HC2 HWJ HBS HBD HSHJ HW
            have hm1 : (0 : Int) ≤ (bj : Int) := by omega
            rcases ha with rfl | rfl
            · rw [Nat.add_zero] at hsj
              subst hsj
              by_cases hw0 : wj = 0
              · have hs0 := hz hw0
                subst hw0
                subst hs0
                clear hz
                go_wp2
                go_round
                case rel => exact ⟨j + 1, by omega, by go_num, by rw [HSS.out]; go_num⟩
                case measure => simp [intOf]; omega
              · have hwz : ((wj : Int) == 0) = false := beq_eq_false_iff_ne.2 (by omega)
                clear hz
                go_wp2
                go_round
                case rel => exact ⟨j + 1, by omega, by go_num, by rw [HSS.out]; go_num⟩
                case measure => simp [intOf]; omega
            · subst hsj
              have hw0 : wj ≠ 0 := fun h => by have := hz h; omega
              have hwz : ((wj : Int) == 0) = false := beq_eq_false_iff_ne.2 (by omega)
              clear hz hw0
              go_wp2
              go_round
              case rel => exact ⟨j + 1, by omega, by go_num, by rw [HSS.out]; go_num⟩
              case measure => simp [intOf]; omega
          · obtain rfl : j = i := by omega
            have hfin := HFA.out.1
            rw [hfin]
            clear hfin HFA HR HC2 HWJ HBS HBD HSHJ HW
            go_wp2_with (go_at_call 8; (with_reducible refine (awake_any _).mono ?_); rintro e w2 ⟨rfl, hb3⟩)
            go_ret
            exact ⟨ret_bool (by simp), hbw.trans (hb3.mono hbw.size)⟩

end Go.Proofs.Ytdiogfjbjdiclaa
