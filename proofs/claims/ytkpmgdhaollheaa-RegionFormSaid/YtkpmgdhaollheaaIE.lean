/- insert: more edges among those of a row, by x. -/
import Derived.Test.YtkpmgdhaollheaaID
import Derived.Test.YtkpmgdhaollheaaIA
namespace Go.Proofs.Ytkpmgdhaollheaa
open Go.RowKit Go.Shelf

theorem Turn.of_row {U : List TypeId} {B B' : Nat} {w w' : World} {e : TypeId} {k n : Nat} {v : Value} {xs : List Value} (ho : w.ownsRow B' e k v n xs) (hg : w.grownBy w' v.ownBlock) (hB : B ≤ B') (he : U.contains e = true) : Turn U B w w' :=
  Turn.of_grown hg fun r hr => by
    obtain ⟨c, fz, hc⟩ := Lib.ownsRow_kind ho r hr
    exact ⟨Nat.le_trans hB (ownsRow_ge ho r hr), _, hc, he⟩
/-- A row below B lies on. -/
theorem Turn.low {U : List TypeId} {B : Nat} {X Y : World} (h : Turn U B X Y) {base : Nat} {e : TypeId} {size n : Nat} {v : Value} {xs : List Value} (hb : ∀ g, v.ownBlock = some g → g < B) (ho : X.ownsRow base e size v n xs) : Y.ownsRow base e size v n xs := by
  rcases ho with ⟨hl, ⟨rfl, h0⟩ | ⟨g, cap, cur, rfl, h1, h2, h3⟩⟩
  · exact ⟨hl, .inl ⟨rfl, h0⟩⟩
  · exact ⟨hl, .inr ⟨g, cap, cur, rfl, h1, h.block g _ h2 (.inl (hb g rfl)), h3⟩⟩
theorem Turn.box {U : List TypeId} {B : Nat} {X Y : World} (h : Turn U B X Y) {b : Nat} {cs : Array Value} {t : TypeId} (hb : b < B ∨ U.contains t = false) (ho : BoxAt X b cs t) : BoxAt Y b cs t := h.block b _ ho hb

/-- Edges in a row of their own at block g, from its start. -/
abbrev EdAt (w : World) (B g n cap : Nat) (E : List Ed) : Prop := OwnAt w B 124 5 encE (.slice (some ⟨g, 0, none⟩) n cap) E

theorem drop_take_get {E : List Ed} {o m j : Nat} (hm : o + m ≤ E.length) (hj : j < m) : ((E.drop o).take m)[j]! = E[o + j]! := by
  rw [getElem!_pos _ _ (by simp; omega), getElem!_pos E (o + j) (by omega)]
  simp

set_option maxHeartbeats 8000000 in
set_option maxRecDepth 100000 in
theorem insert_any (v : Value) (R : List Ed) (B : Nat) (ge N capE Be o m c : Nat) (E : List Ed) (w : World) (h : OwnAt w B 124 5 encE v R) (hB : B ≤ w.heap.size) (hE : EdAt w Be ge N capE E) (hN : E.length = N) (hom : o + m ≤ N) (hmc : m ≤ c) (hge : ge < B) (hR : R.length ≤ 240000) (hNN : N ≤ 240000) :
    Calls Try.prog 102 #[v, .slice (some ⟨ge, o * 5, none⟩) m c] w fun e w' => ∃ v', e = .returned v' ∧ OwnAt w' B 124 5 encE v' (mergeL R ((E.drop o).take m)) ∧ Turn [124] B w w' := by
  obtain ⟨i0, hi, hz0, hz1, hz2⟩ := info_parts info_edge
  obtain ⟨p, cap, rfl⟩ := h.shape
  obtain ⟨r, hr⟩ : ∃ r, r = R.length := ⟨_, rfl⟩
  rw [← hr] at h ⊢
  have HR := Lib.hid hr
  obtain ⟨T, hT⟩ : ∃ T, T = (E.drop o).take m := ⟨_, rfl⟩
  have hTl : T.length = m := by rw [hT]; simp; omega
  rw [← hT]
  have HTg := Lib.hid (fun j (hj : j < m) => show T[j]! = E[o + j]! by rw [hT]; exact drop_take_get (by omega) hj)
  have HTl := Lib.hid hTl
  have HE := Lib.hid hE
  have HN := Lib.hid hN
  have hxs := h
  unfold OwnAt at hxs
  rw [← hr] at hxs
  have HXs := Lib.hid hxs
  have hr' : (r : Int) ≤ 240000 := by omega
  have hm' : (m : Int) ≤ 240000 := by omega
  have hnew : ∀ j u, (T.flatMap encE)[j]? = some u → w.cell? ((⟨ge, o * 5, none⟩ : Addr).add j) = some u := by
    intro j u hu
    have hj : j < m * 5 := by
      have := (List.getElem?_eq_some_iff.1 hu).1
      rwa [flatMap_len encE 5 encE_len, hTl] at this
    rw [flatMap_get encE 5 encE_len T j (by rw [hTl]; exact hj), HTg.out (j / 5) (by omega)] at hu
    have := hE.cell encE_len hN.symm (j := o + j / 5) (by omega) (i := j % 5) hu
    rw [show (⟨ge, o * 5, none⟩ : Addr).add j = ⟨ge, o * 5 + j, none⟩ by unfold Addr.add; split <;> simp_all, ← this]
    congr 2
    omega
  have HNew := Lib.hid hnew
  have HTL := Lib.hid (show (T.flatMap encE).length = m * 5 by rw [flatMap_len encE 5 encE_len, hTl])
  have HOn := Lib.hid (oneE T)
  clear h hxs hnew hT hTl hE hN hr
  go_enter Try.func102, Try.ntmps102
  go_wp2_with (first | (at_builtin; refine wpList_append_own _ rfl _ _ 107 rfl B 124 i0 _ 5 40 Try.underlying107 hi hz0 hz1 hz2 rfl (by decide) _ r _ rfl HXs.out ⟨ge, o * 5, none⟩ m c (T.flatMap encE) rfl HTL.out HNew.out HOn.out ?c3 ?c4 ?c5 ?_))
  case c3 => unfold maxLen; omega
  case c4 => omega
  case c5 => exact hB
  intro v1 w1 hown1 hgrow _
  have HT1 := Lib.hid (Turn.of_row (U := [124]) HXs.out hgrow (Nat.le_refl B) rfl)
  have HO1 := Lib.hid (OwnAt.snoc (l := R) (m := T) (enc := encE) (n := m) HTl.out.symm (by rw [← HR.out]; exact hown1))
  have hsh := HO1.out.shape
  have hlen1 : (R ++ T).length = r + m := by rw [List.length_append, ← HR.out, HTl.out]
  rw [hlen1] at hsh
  obtain ⟨p1, cap1, rfl⟩ := hsh
  have HL1 := Lib.hid hlen1
  clear hown1 hgrow hlen1
  go_wp2
  go_loopw [5, 6, 7] (fun ui uj ut wr => ∃ (i j : Nat) (zi zj zt : Int) (A : List Ed), ui = .int .i64 zi ∧ uj = .int .i64 zj ∧ ut = .int .i64 zt ∧ zi = (i : Int) - 1 ∧ zj = (j : Int) - 1 ∧ zt = ((i + j : Nat) : Int) - 1 ∧ i ≤ r ∧ j ≤ m ∧ A.length = r + m ∧ A.take i = R.take i ∧ mergeN R T i j ++ A.drop (i + j) = mergeL R T ∧ OwnAt wr B 124 5 encE (.slice p1 (r + m) cap1) A ∧ Turn [124] B w wr) (fun ui uj _ _ => (intOf ui + 1).toNat + (intOf uj + 1).toNat)
  case atStart =>
    refine ⟨r, m, (r : Int) - 1, (m : Int) - 1, ((r + m : Nat) : Int) - 1, R ++ T, rfl, rfl, by simp, rfl, rfl, rfl, Nat.le_refl _, Nat.le_refl _, HL1.out, ?_, ?_, HO1.out, HT1.out⟩
    · rw [HR.out, List.take_left', List.take_of_length_le (Nat.le_refl _)]; rfl
    · rw [List.drop_of_length_le (by rw [HL1.out]; exact Nat.le_refl _), List.append_nil, mergeL, ← HR.out, HTl.out]
  case round =>
    obtain ⟨i, j, zi, zj, zt, A, rfl, rfl, rfl, hzi, hzj, hzt, hir, hjm, hAl, hAt, hme, hown, htu⟩ := hrel
    cases j with
    | zero =>
      have hneg : ¬ (0 : Int) ≤ zj := by omega
      have HF := Lib.hid (show A = mergeL R T by
        rw [← hme, mergeN, Nat.add_zero, ← hAt, List.take_append_drop])
      have HO := Lib.hid hown
      have HT := Lib.hid htu
      clear hown htu hme hAt hzi hzj hzt
      go_wp2
      go_ret
      exact ⟨_, rfl, by rw [← HF.out]; exact HO.out, HT.out⟩
    | succ j =>
      obtain rfl : zj = (j : Int) := by omega
      obtain ⟨t, ht⟩ : ∃ t, t = i + j := ⟨_, rfl⟩
      obtain rfl : zt = (t : Int) := by omega
      have HT0 := Lib.hid ht
      have HZi := Lib.hid hzi
      have htr : t < r + m := by omega
      have htr' : (t : Int) < ((r + m : Nat) : Int) := by omega
      obtain ⟨g1, cap2, e1, hBg, hg1, hcp⟩ := hown.form (by omega)
      rw [hAl] at e1 hcp
      cases e1
      have hEw : EdAt wr Be ge N capE E := Turn.low htu (fun g e => by cases e; exact hge) HE.out
      have x0 := hEw.cell encE_len HN.out.symm (j := o + j) (by rw [HN.out]; omega) (i := 0) rfl
      have x1 := hEw.cell encE_len HN.out.symm (j := o + j) (by rw [HN.out]; omega) (i := 1) rfl
      have x2 := hEw.cell encE_len HN.out.symm (j := o + j) (by rw [HN.out]; omega) (i := 2) rfl
      have x3 := hEw.cell encE_len HN.out.symm (j := o + j) (by rw [HN.out]; omega) (i := 3) rfl
      have x4 := hEw.cell encE_len HN.out.symm (j := o + j) (by rw [HN.out]; omega) (i := 4) rfl
      have hTj := HTg.out j (by omega)
      rw [← hTj, show (o + j) * 5 = o * 5 + j * 5 by omega] at x0 x1 x2 x3 x4
      have ow3 := hown
      unfold OwnAt at ow3
      rw [hAl] at ow3
      have f0 := World.ownsRow.frozenAt ow3 (t * 5)
      have f1 := World.ownsRow.frozenAt ow3 (t * 5 + 1)
      have f2 := World.ownsRow.frozenAt ow3 (t * 5 + 2)
      have f3 := World.ownsRow.frozenAt ow3 (t * 5 + 3)
      have f4 := World.ownsRow.frozenAt ow3 (t * 5 + 4)
      have k0 := hown.cell encE_len hAl.symm (j := t) (by omega) (i := 0) rfl
      have k1 := hown.cell encE_len hAl.symm (j := t) (by omega) (i := 1) rfl
      have k2 := hown.cell encE_len hAl.symm (j := t) (by omega) (i := 2) rfl
      have k3 := hown.cell encE_len hAl.symm (j := t) (by omega) (i := 3) rfl
      have k4 := hown.cell encE_len hAl.symm (j := t) (by omega) (i := 4) rfl
      simp only [Nat.add_zero] at k0 x0
      have HP := Lib.hid (fun q => own_putE hown hAl htr q)
      have HTu := Lib.hid htu
      have HO3 := Lib.hid ow3
      have HAl := Lib.hid hAl
      have hjm' : (j : Int) < (m : Int) := by omega
      have hmc' : (m : Int) ≤ (c : Int) := by omega
      have hngg : ge ≠ g1 := by omega
      have hdrop : ∀ q, (A.set t q).drop t = q :: A.drop (t + 1) := fun q => by
        rw [List.drop_set, if_neg (by omega), Nat.sub_self, List.drop_eq_getElem_cons (by omega)]; rfl
      have HMore := Lib.hid (show mergeN R T i (j + 1) = mergeN R T i j ++ [T[j]!] → (A.set t T[j]!).length = r + m ∧ (A.set t T[j]!).take i = R.take i ∧ mergeN R T i j ++ (A.set t T[j]!).drop (i + j) = mergeL R T from fun e => by
        refine ⟨by rw [List.length_set]; exact hAl, by rw [List.take_set_of_le (by omega)]; exact hAt, ?_⟩
        rw [← ht, hdrop, ← hme, e, show i + (j + 1) = t + 1 by omega, List.append_assoc]
        rfl)
      have hj0 : (0 : Int) ≤ (j : Int) := by omega
      have ht0 : (0 : Int) ≤ (t : Int) := by omega
      cases i with
      | zero =>
        have hneg : ¬ (0 : Int) ≤ zi := by omega
        have HM := Lib.hid (HMore.out (by rw [mergeN]))
        clear hown htu hEw ow3 hme hAt hAl HMore hdrop hTj ht hzi hzj hzt
        generalize T[j]! = q at *
        generalize A[t]! = qt at *
        have hcb : decide ((0 : Int) ≤ zi) = false := decide_eq_false hneg
        go_wp2
        go_quiet (fail)
        go_wp2
        go_roundw
        case rel =>
          obtain ⟨p1, p2⟩ := HP.out q
          have := HT0.out
          have := HZi.out
          exact ⟨0, j, zi, (j : Int) - 1, (t : Int) - 1, A.set t q, rfl, rfl, rfl, by omega, by simp, by omega, Nat.zero_le _, by omega, HM.out.1, HM.out.2.1, HM.out.2.2, own_drewN p1 nq, HTu.out.trans ((Turn.of_row HO3.out p2 (Nat.le_refl B) rfl).trans (Turn.drewN _ _))⟩
        case measure => simp [intOf]; try omega
      | succ i =>
        obtain rfl : zi = (i : Int) := by omega
        have hi0 : (0 : Int) ≤ (i : Int) := by omega
        have hir' : (i : Int) < ((r + m : Nat) : Int) := by omega
        have hAi : A[i]! = R[i]! := by
          have := congrArg (fun q => q[i]?) hAt
          rw [List.getElem?_take_of_lt (by omega), List.getElem?_take_of_lt (by omega), List.getElem?_eq_getElem (by omega), List.getElem?_eq_getElem (by rw [← HR.out]; omega)] at this
          rw [getElem!_pos A i (by omega), getElem!_pos R i (by rw [← HR.out]; omega)]
          exact Option.some.inj this
        have y0 := hown.cell encE_len hAl.symm (j := i) (by omega) (i := 0) rfl
        have y1 := hown.cell encE_len hAl.symm (j := i) (by omega) (i := 1) rfl
        have y2 := hown.cell encE_len hAl.symm (j := i) (by omega) (i := 2) rfl
        have y3 := hown.cell encE_len hAl.symm (j := i) (by omega) (i := 3) rfl
        have y4 := hown.cell encE_len hAl.symm (j := i) (by omega) (i := 4) rfl
        rw [hAi] at y0 y1 y2 y3 y4
        simp only [Nat.add_zero] at y0
        by_cases hc : T[j]!.x < R[i]!.x
        · have HM := Lib.hid (show (A.set t R[i]!).length = r + m ∧ (A.set t R[i]!).take i = R.take i ∧ mergeN R T i (j + 1) ++ (A.set t R[i]!).drop (i + (j + 1)) = mergeL R T by
            refine ⟨by rw [List.length_set]; exact hAl, ?_, ?_⟩
            · rw [List.take_set_of_le (by omega)]
              have := congrArg (List.take i) hAt
              rwa [List.take_take, List.take_take, Nat.min_eq_left (by omega)] at this
            · rw [show i + (j + 1) = t by omega, hdrop, ← hme, show i + 1 + (j + 1) = t + 1 by omega]
              conv => rhs; rw [mergeN, if_pos hc]
              rw [List.append_assoc]
              rfl)
          clear hown htu hEw ow3 hme hAt hAl HMore hdrop hTj hAi ht hzi hzj hzt
          generalize T[j]! = q at *
          generalize R[i]! = q2 at *
          generalize A[t]! = qt at *
          go_wp2
          go_quiet (fail)
          go_wp2
          go_roundw
          case rel =>
            obtain ⟨p1, p2⟩ := HP.out q2
            have := HT0.out
            exact ⟨i, j + 1, (i : Int) - 1, (j : Int), (t : Int) - 1, A.set t q2, rfl, rfl, rfl, rfl, by simp, by omega, by omega, by omega, HM.out.1, HM.out.2.1, HM.out.2.2, own_drewN p1 nq, HTu.out.trans ((Turn.of_row HO3.out p2 (Nat.le_refl B) rfl).trans (Turn.drewN _ _))⟩
          case measure => simp [intOf]; try omega
        · have HM := Lib.hid (HMore.out (by rw [mergeN, if_neg hc]))
          clear hown htu hEw ow3 hme hAt hAl HMore hdrop hTj hAi ht hzi hzj hzt
          generalize T[j]! = q at *
          generalize R[i]! = q2 at *
          generalize A[t]! = qt at *
          go_wp2
          go_quiet (fail)
          go_wp2
          go_roundw
          case rel =>
            obtain ⟨p1, p2⟩ := HP.out q
            have := HT0.out
            exact ⟨i + 1, j, (i : Int), (j : Int) - 1, (t : Int) - 1, A.set t q, rfl, rfl, rfl, by simp, by simp, by omega, by omega, by omega, HM.out.1, HM.out.2.1, HM.out.2.2, own_drewN p1 nq, HTu.out.trans ((Turn.of_row HO3.out p2 (Nat.le_refl B) rfl).trans (Turn.drewN _ _))⟩
          case measure => simp [intOf]; try omega
end Go.Proofs.Ytkpmgdhaollheaa
