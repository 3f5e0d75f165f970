/- rise: the edges of the row above. -/
import Derived.Test.YtkpmgdhaollheaaIE
import Derived.Deep.RegionHeld3
namespace Go.Proofs.Ytkpmgdhaollheaa
open Go.RowKit Go.Shelf

theorem takeWhile_take {p : Ed → Bool} : ∀ {l : List Ed} {k : Nat}, k ≤ l.length → (∀ j, j < k → p l[j]! = true) → (k < l.length → p l[k]! = false) → l.takeWhile p = l.take k ∧ l.dropWhile p = l.drop k
  | [], k, hk, _, _ => by obtain rfl : k = 0 := by simpa using hk
                          simp
  | e :: l, 0, _, _, h => by
    have : p e = false := h (by simp)
    simp [this]
  | e :: l, k + 1, hk, ha, h => by
    have h0 : p e = true := ha 0 (by omega)
    obtain ⟨i1, i2⟩ := takeWhile_take (l := l) (k := k) (by simpa using hk) (fun j hj => ha (j + 1) (by omega)) (fun hj => h (by simpa using hj))
    simp [h0, i1, i2]

set_option maxHeartbeats 8000000 in
set_option maxRecDepth 100000 in
theorem rise_any (v : Value) (R : List Ed) (B : Nat) (ge N capE Be o oa c : Nat) (hoa1 : oa ≤ N) (hoa2 : o < N → oa = o) (E : List Ed) (y : Int) (w : World) (h : OwnAt w B 124 5 encE v R) (hB : B ≤ w.heap.size) (hE : EdAt w Be ge N capE E) (hN : E.length = N) (hoN : o ≤ N) (hc : N - o ≤ c) (hge : ge < B) (hR : R.length ≤ o) (hNN : N ≤ 240000) :
    Calls Try.prog 89 #[v, .slice (some ⟨ge, oa * 5, none⟩) (N - o) c, .int .i64 y] w fun e w' => ∃ (v' : Value) (k oa' : Nat), e = .returned (.tuple #[v', .slice (some ⟨ge, oa' * 5, none⟩) (N - (o + k)) (c - k)]) ∧ o + k ≤ N ∧ oa' ≤ N ∧ (o + k < N → oa' = o + k) ∧ OwnAt w' B 124 5 encE v' (riseRow R (E.drop o) y) ∧ riseRest (E.drop o) y = E.drop (o + k) ∧ Turn [124] B w w' := by
  obtain ⟨m, hm⟩ : ∃ m, m = N - o := ⟨_, rfl⟩
  rw [← hm] at hc ⊢
  have hm' : (m : Int) ≤ 240000 := by omega
  have HBx := Lib.hid (BoxAt.new w #[.int .i64 y] 3)
  have HE := Lib.hid ((OwnAt.kept hE (below_one w (.cells #[.int .i64 y] 3))))
  have HO := Lib.hid (OwnAt.kept h (below_one w (.cells #[.int .i64 y] 3)))
  have HN := Lib.hid hN
  have HM := Lib.hid hm
  have hm1 : o + m ≤ N := by omega
  have hm2 : N ≤ o + m := by omega
  have HT0 := Lib.hid (Turn.of_below (U := [124]) (B := B) (below_one w (.cells #[.int .i64 y] 3)))
  have hB1 : B ≤ (w.alloc (.cells #[.int .i64 y] 3)).heap.size := by simp; omega
  have hglt : ge < w.heap.size := by omega
  have hgne : w.heap.size ≠ ge := by omega
  obtain ⟨p, cap, rfl⟩ := h.shape
  clear h hE hN hm
  generalize hbx : w.heap.size = bx at *
  go_enter Try.func89, Try.ntmps89
  go_wp2
  generalize hw1 : w.alloc (.cells #[.int .i64 y] 3) = w1 at *
  go_loopw [8] (fun ui wr => ∃ (k q : Nat), ui = .int .i64 k ∧ k ≤ m ∧ (∀ j, j < k → E[o + j]!.lo = y) ∧ wr = w1.drewN q) (fun ui _ => m - (intOf ui).toNat)
  case atStart => exact ⟨0, 0, rfl, Nat.zero_le _, fun j hj => absurd hj (Nat.not_lt_zero _), rfl⟩
  case round =>
    obtain ⟨k, q, rfl, hk, hall, rfl⟩ := hrel
    have fin : (k < m → E[o + k]!.lo ≠ y) → (E.drop o).takeWhile (atLo y) = (E.drop o).take k ∧ (E.drop o).dropWhile (atLo y) = (E.drop o).drop k := fun hne => by
      have hlen : (E.drop o).length = m := by rw [List.length_drop, HN.out]; omega
      have hget : ∀ j, j < m → (E.drop o)[j]! = E[o + j]! := fun j hj => by
        rw [getElem!_pos (E.drop o) j (by omega), getElem!_pos E (o + j) (by rw [HN.out]; omega)]
        simp
      refine takeWhile_take (by omega) (fun j hj => ?_) (fun hj => ?_)
      · rw [hget j (by omega)]; exact decide_eq_true (hall j hj)
      · rw [hget k (by omega)]; exact decide_eq_false (hne (by omega))
    have x9 : (w1.drewN q).cell? ⟨bx, 0, none⟩ = some (.int .i64 y) := HBx.out.cell (i := 0) rfl
    have HOq := Lib.hid (show OwnAt (w1.drewN q) B 124 5 encE _ R from HO.out)
    have HEq := Lib.hid (show EdAt (w1.drewN q) Be ge N capE E from HE.out)
    have HBq := Lib.hid (show BoxAt (w1.drewN q) bx #[.int .i64 y] 3 from HBx.out)
    have HTq := Lib.hid (HT0.out.trans (Turn.drewN w1 q))
    have hszq : B ≤ (w1.drewN q).heap.size := hB1
    by_cases hkm : k < m
    · obtain rfl : oa = o := hoa2 (by omega)
      have hkE : oa + k < E.length := by rw [HN.out]; omega
      have x1 := HEq.out.cell encE_len HN.out.symm (j := oa + k) hkE (i := 1) rfl
      rw [show (oa + k) * 5 = oa * 5 + k * 5 by omega] at x1
      have hkm' : (k : Int) < (m : Int) := by omega
      have hk0 : (0 : Int) ≤ (k : Int) := by omega
      by_cases hlo : E[oa + k]!.lo = y
      · have HA := Lib.hid (show ∀ j, j < k + 1 → E[oa + j]!.lo = y from fun j hj => by
          rcases Nat.lt_or_ge j k with h | h
          · exact hall j h
          · obtain rfl : j = k := by omega
            exact hlo)
        rw [hlo] at x1
        clear fin hall hlo
        generalize hwq : w1.drewN q = wq at *
        have HW := Lib.hid hwq
        clear hwq
        go_wp2
        go_quiet (fail)
        go_wp2
        go_roundw
        case rel => exact ⟨k + 1, q + nq, by simp, by omega, HA.out, by rw [← HW.out, World.drewN_drewN]⟩
        case measure => simp [intOf]; omega
      · have HF := Lib.hid (fin fun _ => hlo)
        have hbe : (E[oa + k]!.lo == y) = false := beq_eq_false_iff_ne.2 hlo
        clear fin hall
        generalize w1.drewN q = wq at *
        generalize E[oa + k]!.lo = elo at *
        go_wp2
        go_quiet (fail)
        have hszn : B ≤ (wq.drewN nq).heap.size := hszq
        have HI := Lib.hid (insert_any (.slice p R.length cap) R B ge N capE Be oa k c E (wq.drewN nq) (show OwnAt (wq.drewN nq) B 124 5 encE _ R from HOq.out) hszn (show EdAt (wq.drewN nq) Be ge N capE E from HEq.out) HN.out (by have := HM.out; omega) (by omega) hge (by omega) hNN)
        have HBn := Lib.hid (show BoxAt (wq.drewN nq) bx #[.int .i64 y] 3 from HBq.out)
        have HTn := Lib.hid (HTq.out.trans (Turn.drewN wq nq))
        have hkc : (k : Int) ≤ (c : Int) := by omega
        have hkmm : (k : Int) ≤ (m : Int) := by omega
        have hk00 : (0 : Int) ≤ (k : Int) := by omega
        clear HOq HEq HBq HTq
        generalize wq.drewN nq = wn at *
        go_wp2_with fail
        refine Calls.mono HI.out ?_
        rintro e w2 ⟨v2, rfl, h2, t2⟩
        have hsz2 := t2.size
        have hB2 : B ≤ w2.heap.size := by omega
        have hml : (mergeL R ((E.drop oa).take k)).length ≤ 240000 := by
          rw [(mergeL_perm _ _).length_eq, List.length_append, List.length_take]
          have := HM.out
          omega
        have HD := Lib.hid (deleteE_any bx y v2 _ B w2.drew (show OwnAt w2.drew B 124 5 encE v2 _ from h2) hB2 (show BoxAt w2.drew bx #[.int .i64 y] 3 from t2.box (.inr (by decide)) HBn.out) hml)
        have HG := Lib.hid (fun (w3 : World) (g3 : w2.drew.grownBy w3 v2.ownBlock) => Turn.of_row (U := [124]) (B := B) (show World.ownsRow w2.drew B 124 5 v2 _ _ from h2) g3 (Nat.le_refl B) rfl)
        have HT2 := Lib.hid ((HTn.out.trans t2).trans (Turn.drewN w2 1))
        obtain ⟨p2, cap2, rfl⟩ := h2.shape
        clear h2 t2 hml HI HBn HTn
        generalize hlen2 : (mergeL R ((E.drop oa).take k)).length = n2 at *
        have hkmN : m - k = N - (oa + k) := by have := HM.out; omega
        go_wp2
        go_region_held3 (fun _ => True) (trivial) (first
          | (go_at_call 103; (with_reducible refine Calls.mono HD.out ?_); rintro e w3 ⟨v3, rfl, h3, g3⟩; have H3 := Lib.hid h3; have G3 := Lib.hid (HG.out w3 g3); clear h3 g3))
        go_wp2
        go_ret2
        refine ⟨v3, k, oa + k, ?_, by have := HM.out; omega, by have := HM.out; omega, fun _ => rfl, ?_, ?_, HT2.out.trans G3.out⟩
        · rw [show (oa + k) * 5 = oa * 5 + k * 5 by omega]
          rfl
        · have := H3.out
          unfold riseRow
          rw [HF.out.1]
          exact this
        · unfold riseRest
          rw [HF.out.2, List.drop_drop]
    · obtain rfl : k = m := by omega
      have HF := Lib.hid (fin fun h => absurd h (Nat.lt_irrefl _))
      have hTk : (E.drop oa).take k = (E.drop o).take k := by
        rcases Nat.eq_zero_or_pos k with h | h
        · subst h; rfl
        · rw [hoa2 (by omega)]
      have hoa3 : oa + k ≤ N := by
        rcases Nat.eq_zero_or_pos k with h | h
        · omega
        · have := hoa2 (by omega)
          omega
      have hcb : decide ((k : Int) < (k : Int)) = false := by simp
      clear fin hall
      generalize w1.drewN q = wq at *
      go_wp2
      go_quiet (fail)
      have hszn : B ≤ (wq.drewN nq).heap.size := hszq
      have HI := Lib.hid (insert_any (.slice p R.length cap) R B ge N capE Be oa k c E (wq.drewN nq) (show OwnAt (wq.drewN nq) B 124 5 encE _ R from HOq.out) hszn (show EdAt (wq.drewN nq) Be ge N capE E from HEq.out) HN.out hoa3 (by omega) hge (by omega) hNN)
      rw [hTk] at HI
      have HBn := Lib.hid (show BoxAt (wq.drewN nq) bx #[.int .i64 y] 3 from HBq.out)
      have HTn := Lib.hid (HTq.out.trans (Turn.drewN wq nq))
      have hkc : (k : Int) ≤ (c : Int) := by omega
      have hk00 : (0 : Int) ≤ (k : Int) := by omega
      clear HOq HEq HBq HTq
      generalize wq.drewN nq = wn at *
      go_wp2_with fail
      refine Calls.mono HI.out ?_
      rintro e w2 ⟨v2, rfl, h2, t2⟩
      have hsz2 := t2.size
      have hB2 : B ≤ w2.heap.size := by omega
      have hml : (mergeL R ((E.drop o).take k)).length ≤ 240000 := by
        rw [(mergeL_perm _ _).length_eq, List.length_append, List.length_take]
        have := HM.out
        omega
      have HD := Lib.hid (deleteE_any bx y v2 _ B w2.drew (show OwnAt w2.drew B 124 5 encE v2 _ from h2) hB2 (show BoxAt w2.drew bx #[.int .i64 y] 3 from t2.box (.inr (by decide)) HBn.out) hml)
      have HG := Lib.hid (fun (w3 : World) (g3 : w2.drew.grownBy w3 v2.ownBlock) => Turn.of_row (U := [124]) (B := B) (show World.ownsRow w2.drew B 124 5 v2 _ _ from h2) g3 (Nat.le_refl B) rfl)
      have HT2 := Lib.hid ((HTn.out.trans t2).trans (Turn.drewN w2 1))
      obtain ⟨p2, cap2, rfl⟩ := h2.shape
      clear h2 t2 hml HI HBn HTn
      generalize hlen2 : (mergeL R ((E.drop o).take k)).length = n2 at *
      by_cases hck : c = k
      · subst hck
        go_wp2
        go_region_held3 (fun _ => True) (trivial) (first
          | (go_at_call 103; (with_reducible refine Calls.mono HD.out ?_); rintro e w3 ⟨v3, rfl, h3, g3⟩; have H3 := Lib.hid h3; have G3 := Lib.hid (HG.out w3 g3); clear h3 g3))
        go_wp2
        go_ret2
        refine ⟨v3, c, oa, ?_, by have := HM.out; omega, hoa1, fun h => by have := HM.out; omega, ?_, ?_, HT2.out.trans G3.out⟩
        · rw [show N - (o + c) = 0 by have := HM.out; omega]
          first | rfl | (simp only [Nat.sub_self]; rfl) | (rw [Nat.sub_self]; rfl) | (simp; done)
        · have := H3.out
          unfold riseRow
          rw [HF.out.1]
          exact this
        · unfold riseRest
          rw [HF.out.2, List.drop_drop]
      · have hck2 : ¬ (c : Int) = (k : Int) := by omega
        go_wp2
        go_region_held3 (fun _ => True) (trivial) (first
          | (go_at_call 103; (with_reducible refine Calls.mono HD.out ?_); rintro e w3 ⟨v3, rfl, h3, g3⟩; have H3 := Lib.hid h3; have G3 := Lib.hid (HG.out w3 g3); clear h3 g3))
        go_wp2
        go_ret2
        refine ⟨v3, k, oa + k, ?_, by have := HM.out; omega, hoa3, fun h => by have := HM.out; omega, ?_, ?_, HT2.out.trans G3.out⟩
        · rw [show N - (o + k) = 0 by have := HM.out; omega]
          rw [show (oa + k) * 5 = oa * 5 + k * 5 by omega]
          first | rfl | (simp only [Nat.sub_self]; rfl) | (rw [Nat.sub_self]; rfl) | (simp; done)
        · have := H3.out
          unfold riseRow
          rw [HF.out.1]
          exact this
        · unfold riseRest
          rw [HF.out.2, List.drop_drop]
end Go.Proofs.Ytkpmgdhaollheaa
