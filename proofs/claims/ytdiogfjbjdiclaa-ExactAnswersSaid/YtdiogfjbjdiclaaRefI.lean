/- The walk of the reference's Shares where all is in range and some weight is not 0. -/
import Derived.Test.YtdiogfjbjdiclaaRefH
namespace Go.Proofs.Ytdiogfjbjdiclaa
open Go.RowKit

/-- What the reference's Shares leaves. -/
def RefPost (w : World) (n : Nat) (v : Nat → Nat) (e : Ending) (w' : World) : Prop :=
  ∃ b, e = .returned (.tuple #[.slice (some ⟨b, 0, none⟩) n n, .int .i64 0]) ∧ Below w.heap.size w w' ∧ w'.rowIs b 3 n (fun q => .int .i64 (v q : Nat))

set_option maxHeartbeats 2000000 in
set_option maxRecDepth 100000 in
theorem refShares_ok (T : Nat) (hT : T ≤ 1099511627776) (n : Nat) (hn0 : 0 < n) (hn : n < 65) (ws f : Nat → Nat) (hws : ∀ j, j < n → ws j ≤ 1099511627776) (S : Nat) (hs : sumTo ws n = S) (hS0 : 0 < S)
    (hO : OrderOk n (remF T S ws) f) (hf : ∀ j, j < n → f j < n) (cap wb wo : Nat) (w : World) (hw : ∀ j, j < n → w.cell? ⟨wb, wo + j, none⟩ = some (.int .i64 (ws j))) (hwb : wb < w.heap.size) :
    Calls Try.prog 24 #[.int .i64 T, .slice (some ⟨wb, wo, none⟩) n cap] w (RefPost w n (fun q => baseF T S ws q + among f (T - sumTo (baseF T S ws) n) q)) := by
  have hnz : ¬ (64 : Int) < (n : Int) := by omega
  have hT0 : ¬ (T : Int) < 0 := by omega
  have hT1 : ¬ 1099511627776 < (T : Int) := by omega
  have hmk := fun w => run_make_row' (P := Try.prog) 22 3 (.int .i64 0) 8 Try.underlying22 info_int rfl .i64 .i64 n (by omega) (by omega) w
  have hmb := fun w => run_make_row' (P := Try.prog) 58 4 (.bool false) 1 Try.underlying58 info_bool rfl .i64 .i64 n (by omega) (by omega) w
  have hlf := left_facts T S n hS0 ws hs
  have hSb : S ≤ 1125899906842624 := by
    have := sumTo_bd ws 1099511627776 n hws
    omega
  have hle : ∀ j, j ≤ n → sumTo ws j ≤ 1125899906842624 := fun j hj => Nat.le_trans (sumTo_le ws hj) (by omega)
  have hle2 : ∀ j, j < n → ws j ≤ S := fun j hj => hs ▸ le_sumTo ws hj
  have hst := ref_start w n T S ws
  have HW := Lib.hid hw
  have HMK := Lib.hid hmk
  have HMB := Lib.hid hmb
  have HL := Lib.hid hlf
  have HS := Lib.hid hs
  have HWS := Lib.hid hws
  have HLE := Lib.hid hle
  have HL2 := Lib.hid hle2
  have HO := Lib.hid hO
  have HF := Lib.hid hf
  have HST := Lib.hid hst
  have HB : Hid (∀ j, j < n → baseF T S ws j ≤ T) := fun q hq => base_le T S n ws hs q hq
  clear hw hmk hmb hlf hs hws hle hle2 hO hf hst
  go_enter Try.func24, Try.ntmps24
  go_wp2_with fail
  go_loop [7, 31] (fun s v => ∃ j : Nat, j ≤ n ∧ v = .int .i64 j ∧ s = .bool false) (fun _ v => n - (intOf v).toNat)
  case atStart => exact ⟨0, Nat.zero_le _, rfl, rfl⟩
  case round =>
    obtain ⟨j, hj, rfl, rfl⟩ := hrel
    by_cases hlt : j < n
    · have hc := HW.out j hlt
      have hlt' : (j : Int) < (n : Int) := by omega
      have h1 := HWS.out j hlt
      generalize ws j = wj at *
      have h0 : ¬ (wj : Int) < 0 := by omega
      have h2 : ¬ 1099511627776 < (wj : Int) := by omega
      go_wp2_with fail
      go_round
      case rel => exact ⟨j + 1, by omega, by go_num, rfl⟩
      case measure => simp [intOf]; omega
    · obtain rfl : j = n := by omega
      clear hlt
      go_wp2_with fail
      go_loop [6, 48] (fun s v => ∃ j2 : Nat, j2 ≤ j ∧ v = .int .i64 j2 ∧ s = .int .i64 (sumTo ws j2 : Nat)) (fun _ v => j - (intOf v).toNat)
      case atStart => exact ⟨0, Nat.zero_le _, rfl, rfl⟩
      case round =>
        obtain ⟨i, hi, rfl, rfl⟩ := hrel
        by_cases hlt : i < j
        · have hc := HW.out i hlt
          have hlt' : (i : Int) < (j : Int) := by omega
          have h1 := HLE.out (i + 1) (by omega)
          have HSU : Hid (sumTo ws (i + 1) = sumTo ws i + ws i) := rfl
          rw [HSU.out] at h1
          generalize ws i = wi at *
          generalize sumTo ws i = si at *
          go_wp2_with fail
          go_round
          case rel => exact ⟨i + 1, by omega, by go_num, by rw [HSU.out]; go_num⟩
          case measure => simp [intOf]; omega
        · obtain rfl : i = j := by omega
          clear hlt
          rw [HS.out]
          have hS1 : (((S : Int)) == 0) = false := beq_eq_false_iff_ne.2 (by omega)
          have hmk := HMK.out
          go_wp2_with fail
          go_region
          have P0 := HST.out.1
          generalize w.heap.size + 1 = rb at P0 ⊢
          generalize w.heap.size = ob at P0 ⊢
          rotate_left
          have P0 := HST.out.2
          generalize w.heap.size + 1 = ob at P0 ⊢
          generalize w.heap.size = rb at P0 ⊢
          all_goals (
            clear hmk
            go_wp2_with fail
            go_loopw [14, 68] (fun v14 v wr => ∃ j : Nat, j ≤ i ∧ v = .int .i64 j ∧ v14 = .int .i64 ((T : Int) - (sumTo (baseF T S ws) j : Nat)) ∧ RefPre w wr i T S ws ob rb j) (fun _ v _ => i - (intOf v).toNat)
            case atStart => exact ⟨0, Nat.zero_le _, rfl, by simp [sumTo], P0⟩
            case round =>
              clear P0
              obtain ⟨j, hj, rfl, rfl, P1⟩ := hrel
              by_cases hlt : j < i
              · have hc : wr.cell? ⟨wb, wo + j, none⟩ = some (.int .i64 (ws j)) := by rw [P1.below.cell (by exact hwb)]; exact HW.out j hlt
                have hlt' : (j : Int) < (i : Int) := by omega
                have hwj := HL2.out j hlt
                have hbj := HB.out j hlt
                have hd := fun w => refDivide_small T (ws j) S (by omega) (by omega) hSb (hi_small hT hwj hS0) (by rw [show T * ws j / S = baseF T S ws j from rfl]; omega) w
                have HBB : Hid (T * ws j / S = baseF T S ws j) := rfl
                have HR : Hid (T * ws j % S = remF T S ws j) := rfl
                have hrj : remF T S ws j < S := Nat.mod_lt _ hS0
                rw [HBB.out, HR.out] at hd
                clear HBB HR
                have hsT := goes_on HL.out.1 hlt
                have hc1 := fun q => ((show (wr.drewN q).rowIs ob _ i _ from P1.shares)).cell hlt
                have hf1 := P1.shares.frozen j
                have hc2 := fun q => ((show (wr.drewN q).rowIs rb _ i _ from P1.rems)).cell hlt
                have hf2 := P1.rems.frozen j
                have hnx := P1.step hlt
                have hsub : sumTo (baseF T S ws) (j + 1) = sumTo (baseF T S ws) j + baseF T S ws j := rfl
                have HSUB := Lib.hid hsub
                have HN := Lib.hid hnx
                have HD := Lib.hid hd
                have hne := P1.ne
                clear hnx P1 hsub hd
                generalize baseF T S ws j = bq at *
                generalize remF T S ws j = br at *
                generalize ws j = wj at *
                go_wp2_with (go_at_call 30; (with_reducible refine (HD.out _).mono ?_); rintro e w' ⟨rfl, q, rfl⟩)

                go_roundw
                case rel => exact ⟨j + 1, by omega, by go_num, by rw [HSUB.out]; go_num, HN.out q⟩
                case measure => simp [intOf]; omega
              · obtain rfl : j = i := by omega
                clear hlt
                obtain ⟨lf, hlf⟩ : ∃ lf, lf = T - sumTo (baseF T S ws) j := ⟨_, rfl⟩
                have elf : (T : Int) - (sumTo (baseF T S ws) j : Nat) = (lf : Int) := by
                  have := HL.out.1
                  omega
                have hlj : lf < j := by rw [hlf]; exact HL.out.2.1
                have hlj' : (lf : Int) ≤ (j : Int) := by omega
                rw [elf]
                clear elf
                have A0 := ref_turn (f := f) P1
                have HA0 := Lib.hid A0
                clear P1 A0
                have hmb := HMB.out
                obtain ⟨gb, hgb⟩ : ∃ gb, gb = wr.heap.size := ⟨_, rfl⟩
                rw [← hgb] at HA0
                go_wp2_with fail
                rw [← hgb]
                clear hmb HMB HMK HST
                have HLF := Lib.hid hlf
                clear hlf
                go_loopw [14] (fun v wq => ∃ t : Nat, t ≤ lf ∧ v = .int .i64 ((lf : Int) - (t : Int)) ∧ RefAft w wq j T S ws f ob rb gb t) (fun v _ => (intOf v).toNat)
                case atStart => exact ⟨0, Nat.zero_le _, by simp, HA0.out⟩
                case round =>
                  clear HA0 hgb
                  obtain ⟨t, ht, rfl, A1⟩ := hrel
                  by_cases htl : t < lf
                  · have htj : t < j := by omega
                    have hfj := HF.out t htj
                    have hpos : (0 : Int) < (lf : Int) - (t : Int) := by omega
                    have HA := Lib.hid A1
                    clear A1
                    go_wp2_with fail
                    go_loopw [18, 103] (fun s v wi => ∃ (k : Nat) (b : Int) (q : Nat), k ≤ j ∧ v = .int .i64 k ∧ s = .int .i64 b ∧ Best (remF T S ws) f t k b ∧ wi = wr.drewN q) (fun _ v _ => j - (intOf v).toNat)
                    case atStart => exact ⟨0, -1, 0, Nat.zero_le _, rfl, rfl, Best.start _ _ _, rfl⟩
                    case round =>
                      obtain ⟨k, b, q, hk, rfl, rfl, hb, rfl⟩ := hrel
                      by_cases hkj : k < j
                      · have hkj' : (k : Int) < (j : Int) := by omega
                        have hcg := HA.out.given.cell hkj
                        have hck := HA.out.rems.cell hkj
                        by_cases hg : among f t k = 0
                        · have hgd : decide (among f t k ≠ 0) = false := by simp [hg]
                          rw [hgd] at hcg
                          clear hgd
                          rcases hb.shape with rfl | ⟨m, hm, rfl⟩
                          · have hnx := hb.first hg
                            have HN := Lib.hid hnx
                            have HG := Lib.hid hg
                            clear hb hnx hg
                            go_wp2_with fail
                            go_quiet (fail)
                            go_wp2_with fail
                            go_roundw
                            case rel => exact ⟨k + 1, k, q + nq, by omega, by go_num, rfl, HN.out, rfl⟩
                            case measure => simp [intOf]; omega
                          · have hcm := HA.out.rems.cell (show m < j by omega)
                            have hm0 : ¬ (m : Int) < 0 := by omega
                            have hmj : (m : Int) < (j : Int) := by omega
                            by_cases hr : remF T S ws m < remF T S ws k
                            · have hnx := hb.better hg hr
                              have HN := Lib.hid hnx
                              have HG := Lib.hid hg
                              have hr' : ((remF T S ws m : Nat) : Int) < ((remF T S ws k : Nat) : Int) := by omega
                              clear hb hnx hg hr
                              generalize remF T S ws m = rm at hcm hr'
                              generalize remF T S ws k = rk at hck hr'
                              go_wp2_with fail
                              go_quiet (fail)
                              go_wp2_with fail
                              go_roundw
                              case rel => exact ⟨k + 1, k, q + nq, by omega, by go_num, rfl, HN.out, rfl⟩
                              case measure => simp [intOf]; omega
                            · have hnx := hb.worse hr
                              have HN := Lib.hid hnx
                              have HG := Lib.hid hg
                              have hr' : ¬ ((remF T S ws m : Nat) : Int) < ((remF T S ws k : Nat) : Int) := by omega
                              clear hb hnx hg hr
                              generalize remF T S ws m = rm at hcm hr'
                              generalize remF T S ws k = rk at hck hr'
                              go_wp2_with fail
                              go_quiet (fail)
                              go_wp2_with fail
                              go_roundw
                              case rel => exact ⟨k + 1, m, q + nq, by omega, by go_num, rfl, HN.out, rfl⟩
                              case measure => simp [intOf]; omega
                        · have hgd : decide (among f t k ≠ 0) = true := by simp [hg]
                          rw [hgd] at hcg
                          clear hgd
                          have hnx := hb.skip hg
                          have HN := Lib.hid hnx
                          have HG := Lib.hid hg
                          clear hb hnx hg
                          go_wp2_with fail
                          go_quiet (fail)
                          go_wp2_with fail
                          go_roundw
                          case rel => exact ⟨k + 1, b, q + nq, by omega, by go_num, rfl, HN.out, rfl⟩
                          case measure => simp [intOf]; omega
                      · obtain rfl : k = j := by omega
                        clear hkj
                        obtain rfl := hb.is HO.out HF.out htj
                        clear hb
                        have hcg := HA.out.given.cell hfj
                        have hfg := HA.out.given.frozen (f t)
                        have hcs := HA.out.shares.cell hfj
                        have hfs := HA.out.shares.frozen (f t)
                        have hne := HA.out.ne2
                        have hb1 := HB.out (f t) hfj
                        have hb2 := among_le f t (f t)
                        have HN := HA.out.step htj hfj q
                        have HNX := Lib.hid HN
                        have hv : baseF T S ws (f t) + among f t (f t) ≤ 1099511627900 := by omega
                        clear HA HN hb1 hb2
                        generalize baseF T S ws (f t) + among f t (f t) = v at *
                        generalize decide (among f t (f t) ≠ 0) = gv at *
                        generalize hft : f t = ft at *
                        go_wp2_with fail
                        go_roundw
                        case rel => exact ⟨t + 1, by omega, by go_num, HNX.out⟩
                        case measure => simp [intOf]; omega
                  · obtain rfl : t = lf := by omega
                    have hz : ¬ (0 : Int) < (t : Int) - (t : Int) := by omega
                    go_wp2_with fail
                    go_ret2
                    rw [← HLF.out]
                    exact ⟨ob, rfl, A1.below, A1.shares⟩)
end Go.Proofs.Ytdiogfjbjdiclaa
