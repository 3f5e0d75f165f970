/- edgesOf: both sides of each rectangle of lists, sorted, in a row of the call's own. -/
import Derived.Test.YtkpmgdhaollheaaGF
namespace Go.Proofs.Ytkpmgdhaollheaa
open Go.RowKit

set_option maxHeartbeats 4000000 in
set_option maxRecDepth 100000 in
theorem edgesOf_any (v : Value) (Ls : List (List Rc)) (w : World) (h : ListsAt w v Ls) (hl : tot Ls ≤ 120000) (hL : Ls.length ≤ 62) :
    Calls Try.prog 87 #[v] w fun e w' => ∃ v', e = .returned v' ∧ ∃ E : List Ed, E.Perm (edgesFrom 0 Ls) ∧ E.Pairwise loX ∧ OwnAt w' w.heap.size 124 5 encE v' E ∧ Below w.heap.size w w' := by
  obtain ⟨b0, cap0, rfl, h⟩ := h
  obtain ⟨i0, hi, hz0, hz1, hz2⟩ := info_parts info_edge
  have HL := Lib.hid h
  have HTT := Lib.hid hl
  have HT := Lib.hid (fun k (hk : k < Ls.length) => show (edgesFrom 0 (Ls.take k)).length + 2 * Ls[k]!.length ≤ 240000 by
    rw [edgesFrom_len]; have := tot_take Ls k hk; omega)
  obtain ⟨n, hn⟩ : ∃ n, n = Ls.length := ⟨_, rfl⟩
  rw [← hn]
  have N := Lib.hid hn
  have hn' : (n : Int) ≤ 62 := by omega
  clear h hn hl
  go_enter Try.func87, Try.ntmps87
  go_wp2
  go_loopw [3, 10] (fun u i wr => ∃ k : Nat, k ≤ n ∧ i = .int .i64 k ∧ OwnAt wr w.heap.size 124 5 encE u (edgesFrom 0 (Ls.take k)) ∧ Below w.heap.size w wr) (fun _ i _ => n - (intOf i).toNat)
  case atStart => exact ⟨0, Nat.zero_le _, rfl, OwnAt.nil .., Below.refl _ _⟩
  case round =>
    obtain ⟨k, hk, rfl, hown, hb⟩ := hrel
    by_cases hkn : k < n
    · obtain ⟨u, hu, hR⟩ := HL.out k (by rw [← N.out]; exact hkn)
      have c0 := cell_keep hb hu
      have hlen := HT.out k (by rw [← N.out]; exact hkn)
      have HS := Lib.hid (edgesFrom_take Ls 0 k (by rw [← N.out]; exact hkn))
      rw [Nat.zero_add] at HS
      obtain ⟨p, cap, rfl, hm, hcp, hcell⟩ := hR
      have HC := Lib.hid hcell
      have HB := Lib.hid hb
      have HO := Lib.hid hown
      have hkn' : (k : Int) < (n : Int) := by omega
      clear hu hcell hb hown
      generalize Ls[k]! = l at *
      generalize edgesFrom 0 (Ls.take k) = pre at *
      obtain ⟨m, hm2⟩ : ∃ m, m = l.length := ⟨_, rfl⟩
      rw [← hm2] at c0 hm hcp hlen HC
      have M := Lib.hid hm2
      have hm' : (m : Int) ≤ 120000 := by omega
      clear hm2
      go_wp2
      go_loopw [3, 17] (fun u i wr => ∃ j : Nat, j ≤ m ∧ i = .int .i64 j ∧ OwnAt wr w.heap.size 124 5 encE u (pre ++ edgesOf (l.take j) k) ∧ Below w.heap.size w wr) (fun _ i _ => m - (intOf i).toNat)
      case atStart => exact ⟨0, Nat.zero_le _, rfl, by rw [List.take_zero]; show OwnAt _ _ _ _ _ _ (pre ++ []); rw [List.append_nil]; exact HO.out, HB.out⟩
      case round =>
        obtain ⟨j, hj, rfl, hown, hb⟩ := hrel
        by_cases hjm : j < m
        · obtain ⟨b, off, rfl, hlt, hc⟩ := HC.out j hjm
          obtain ⟨x0, x1, x2, x3⟩ := hc.below hb hlt
          have hjm' : (j : Int) < (m : Int) := by omega
          have HB1 := Lib.hid hb
          have HE := Lib.hid (edgesOf_take (k : Int) (show j < l.length by rw [← M.out]; exact hjm))
          have hlen2 : (pre ++ edgesOf (l.take j) k).length = pre.length + 2 * j := by rw [List.length_append, edgesOf_len, List.length_take, ← M.out]; omega
          have HO1 := Lib.hid hown
          have hxs := hown
          unfold OwnAt at hxs
          rw [hlen2] at hxs
          clear hc hb hown
          generalize l[j]! = r at *
          generalize hl0 : pre ++ edgesOf (l.take j) k = l0 at *
          generalize hxe : l0.flatMap encE = xs at hxs
          go_wp2_with (first | (at_builtin; refine wpList_append_own _ rfl _ _ 107 rfl w.heap.size 124 i0 _ 5 40 Try.underlying107 hi hz0 hz1 hz2 rfl (by decide) _ _ _ rfl ((hxs.alloc _).alloc _) ⟨wr.heap.size + 1, 0, none⟩ 2 2 [.int .i64 r.l, .int .i64 r.b, .int .i64 r.h, .int .i64 k, .int .i64 1, .int .i64 r.r, .int .i64 r.b, .int .i64 r.h, .int .i64 k, .int .i64 (-1)] rfl rfl ?c1 ?c2 ?c3 ?c4 ?c5 ?_))
          case c1 => exact news_at (by simp)
          case c2 => exact List.all_eq_true.1 (by rfl)
          case c3 => unfold maxLen; omega
          case c4 => omega
          case c5 => have := HB1.out.size; simp; omega
          intro v' w1 hown1 hgrow _
          subst hxe
          have HB2 := Lib.hid ((((HB1.out.alloc HB1.out.size _).alloc (by have := HB1.out.size; simp; omega) _).grown hgrow (by have := HB1.out.size; simp; omega) (ownsRow_ge hxs)))
          have HO2 := Lib.hid (OwnAt.snoc (l := l0) (m := eds2 k r) (enc := encE) (n := 2) rfl (by rw [hlen2]; exact hown1))
          clear hxs hown1 hgrow
          go_wp2
          go_roundw
          case rel => exact ⟨j + 1, by omega, by simp, by rw [HE.out, ← List.append_assoc, hl0]; exact HO2.out, HB2.out⟩
          case measure => simp [intOf]; omega
        · obtain rfl : j = m := by omega
          rw [List.take_of_length_le (by rw [M.out]; exact Nat.le_refl _)] at hown
          have HB1 := Lib.hid hb
          have HO1 := Lib.hid hown
          clear hown hb
          go_wp2
          go_roundw
          case rel => exact ⟨k + 1, by omega, by simp, by rw [HS.out]; exact HO1.out, HB1.out⟩
          case measure => simp [intOf]; omega
    · have HB := Lib.hid hb
      have HO := Lib.hid hown
      obtain rfl : k = n := by omega
      rw [List.take_of_length_le (by rw [N.out]; exact Nat.le_refl _)] at hown
      have HS := Lib.hid (sortE_any _ _ w.heap.size wr hown (by rw [edgesFrom_len]; have := HTT.out; omega))
      clear hb hown HO
      go_wp2_with (go_at_call 96; refine Calls.mono HS.out ?_; rintro e w4 ⟨rfl, E, hp, hs, hE4, hg4⟩; have P1 := Lib.hid hp; have P2 := Lib.hid hs; have P3 := Lib.hid hE4; have P4 := Lib.hid (HB.out.grown hg4 HB.out.size (ownsRow_ge hE4)); clear hp hs hE4 hg4)
      go_ret
      exact ⟨_, rfl, E, P1.out, P2.out, P3.out, P4.out⟩
end Go.Proofs.Ytkpmgdhaollheaa
