/- slices.DeleteFunc: the edges that are gone are taken out of a row. -/
import Derived.Test.YtkpmgdhaollheaaIC
namespace Go.Proofs.Ytkpmgdhaollheaa
open Go.RowKit

set_option maxHeartbeats 4000000 in
set_option maxRecDepth 100000 in
theorem deleteE_any (bx : Nat) (y : Int) (v : Value) (l : List Ed) (B : Nat) (w : World) (h : OwnAt w B 124 5 encE v l) (hB : B ≤ w.heap.size) (hx : BoxAt w bx #[.int .i64 y] 3) (hl : l.length ≤ 240000) :
    Calls Try.prog 103 #[v, .func (.func 104) #[] #[.pointer (some ⟨bx, 0, none⟩)]] w fun e w' => ∃ v', e = .returned v' ∧ OwnAt w' B 124 5 encE v' (l.filter (above y)) ∧ w.grownBy w' v.ownBlock := by
  have henter : ∀ args w, (callFunc 104 args).run Try.prog w = .ok (.enter 104 args) w := enters_of Try.func104 (by kernel_rfl) rfl
  have HI := Lib.hid (indexE_any bx y v l B w h hx hl)
  have hs := h.shape
  obtain ⟨p, cap, rfl⟩ := hs
  have HX := Lib.hid hx
  obtain ⟨n, hn⟩ : ∃ n, n = l.length := ⟨_, rfl⟩
  rw [← hn] at h
  have HE := Lib.hid h
  rw [← hn] at HI ⊢
  have N := Lib.hid hn
  have hn' : (n : Int) ≤ 240000 := by omega
  clear h hn hx
  go_enter Try.func103, Try.ntmps103
  go_wp2_with fail
  refine Calls.mono HI.out ?_
  rintro e w1 ⟨z, rfl, hz, hb1⟩
  rcases hz with ⟨rfl, hall⟩ | ⟨k0, rfl, hk0, hgo, hall⟩
  · have HF := Lib.hid (filter_all hall)
    have HB1 := Lib.hid hb1
    clear hall hb1 HI
    go_wp2
    go_ret
    exact ⟨_, rfl, by rw [HF.out]; exact HE.out.kept HB1.out, gr_weak (gr_of_below HB1.out)⟩
  · have hE1 := HE.out.kept hb1
    obtain ⟨g1, cap', e1, hBg, hg, hcn⟩ := hE1.form (by omega)
    rw [← N.out] at e1 hcn hk0
    cases e1
    have HF0 := Lib.hid (show (l.take (k0 + 1)).filter (above y) = l.take k0 by
      rw [filter_take (by rw [← N.out]; exact hk0), if_neg (by rw [hgo]; simp), filter_all]
      intro j hj
      have hj' : j < k0 := by rw [List.length_take] at hj; omega
      have := hall j hj'
      rwa [getElem!_pos (l.take k0) j hj, List.getElem_take, ← getElem!_pos l j (by rw [← N.out]; omega)])
    have HE1 := Lib.hid hE1
    have HX1 := Lib.hid (HX.out.below hb1)
    have HG1 := Lib.hid (gr_weak (row := some g1) (gr_of_below hb1))
    have hsz1 := hb1.size
    have hg0 : g1 < w.heap.size := (World.ownsRow.lt HE.out g1 rfl).2
    have hk0' : (k0 : Int) < (n : Int) := by omega
    have hkm : ((k0 : Int) == -1) = false := beq_eq_false_iff_ne.2 (by omega)
    clear hall hb1 HI hE1 hgo
    go_wp2
    go_loopw [5, 6] (fun ui uj wr => ∃ (i j : Nat) (A : List Ed), ui = .int .i64 i ∧ uj = .int .i64 j ∧ i < j ∧ j ≤ n ∧ A.length = n ∧ A.take i = (l.take j).filter (above y) ∧ A.drop j = l.drop j ∧ OwnAt wr B 124 5 encE (.slice (some ⟨g1, 0, none⟩) n cap) A ∧ BoxAt wr bx #[.int .i64 y] 3 ∧ w.grownBy wr (some g1)) (fun _ uj _ => n - (intOf uj).toNat)
    case atStart => exact ⟨k0, k0 + 1, l, rfl, by simp, by omega, by omega, N.out.symm, by rw [HF0.out], rfl, HE1.out, HX1.out, HG1.out⟩
    case round =>
      obtain ⟨i, j, A, rfl, rfl, hij, hj, hAl, hAt, hAd, hown, hbx, hgr⟩ := hrel
      by_cases hjn : j < n
      · have hjA : j < A.length := by omega
        have hlj : A[j]! = l[j]! := by
          have := congrArg (fun q => q[0]?) hAd
          simp only [List.getElem?_drop, Nat.add_zero] at this
          rw [List.getElem?_eq_getElem hjA, List.getElem?_eq_getElem (by rw [← N.out]; exact hjn)] at this
          rw [getElem!_pos A j hjA, getElem!_pos l j (by rw [← N.out]; exact hjn)]
          exact Option.some.inj this
        have d0 := hown.cell encE_len hAl.symm hjA (i := 0) rfl
        have d1 := hown.cell encE_len hAl.symm hjA (i := 1) rfl
        have d2 := hown.cell encE_len hAl.symm hjA (i := 2) rfl
        have d3 := hown.cell encE_len hAl.symm hjA (i := 3) rfl
        have d4 := hown.cell encE_len hAl.symm hjA (i := 4) rfl
        simp only [Nat.add_zero] at d0
        have hFT := filter_take (y := y) (l := l) (k := j) (by rw [← N.out]; exact hjn)
        rw [← hlj, ← hAt] at hFT
        have HFT := Lib.hid hFT
        have HAd := Lib.hid (show A.drop (j + 1) = l.drop (j + 1) by have := congrArg (List.drop 1) hAd; rwa [List.drop_drop, List.drop_drop] at this)
        have hjn' : (j : Int) < (n : Int) := by omega
        have hwg : g1 < wr.heap.size := (World.ownsRow.lt hown g1 rfl).2
        have hwz := hgr.size
        have HOw := Lib.hid hown
        have HBx := Lib.hid hbx
        have HGr := Lib.hid hgr
        have HAl := Lib.hid hAl
        have HO := Lib.hid (fun w2 hb => goneE_any bx y A[j]! w2 (hbx.below hb))
        clear hown hbx hgr hAt hAd hlj hFT
        generalize A[j]! = r at *
        have n1 : g1 ≠ wr.heap.size := by omega
        cases ho : above y r
        · have HS := Lib.hid (show A.take i = (l.take (j + 1)).filter (above y) by rw [HFT.out, ho]; simp)
          rw [ho] at HO
          clear HFT
          have HO2 := Lib.hid (HO.out _ (below_one wr (.cells #[.int .i64 r.x, .int .i64 r.lo, .int .i64 r.hi, .int .i64 r.list, .int .i64 r.more] 124)))
          go_wp2_with (go_at_fn 104; refine Calls.mono HO2.out ?_; rintro e w2 ⟨rfl, hb2⟩; have B2 := Lib.hid (below_step (below_one wr _) hb2); clear hb2)
          go_roundw
          case rel => exact ⟨i, j + 1, A, rfl, by simp, by omega, by omega, HAl.out, HS.out, HAd.out, HOw.out.kept B2.out, HBx.out.below B2.out, gr_trans HGr.out (gr_weak (gr_of_below B2.out))⟩
          case measure => simp [intOf]; omega
        · have HS := Lib.hid (show A.take i ++ [r] = (l.take (j + 1)).filter (above y) by rw [HFT.out, ho]; simp)
          rw [ho] at HO
          clear HFT
          have HO2 := Lib.hid (HO.out _ (below_one wr (.cells #[.int .i64 r.x, .int .i64 r.lo, .int .i64 r.hi, .int .i64 r.list, .int .i64 r.more] 124)))
          have hbx2 := BoxAt.new wr #[.int .i64 r.x, .int .i64 r.lo, .int .i64 r.hi, .int .i64 r.list, .int .i64 r.more] 124
          have HBn := Lib.hid hbx2
          clear hbx2
          have hil : i < A.length := by rw [HAl.out]; omega
          have hin : i < n := by omega
          have hin' : (i : Int) < (n : Int) := by omega
          have HP := Lib.hid (fun w2 (hb : Below wr.heap.size wr w2) => own_putE (HOw.out.kept hb) HAl.out hin r)
          go_wp2_with fail
          refine Calls.mono HO2.out ?_
          rintro e w2 ⟨rfl, hb2⟩
          have q := HBn.out.below hb2
          have q0 := q.cell (i := 0) rfl
          have q1 := q.cell (i := 1) rfl
          have q2 := q.cell (i := 2) rfl
          have q3 := q.cell (i := 3) rfl
          have q4 := q.cell (i := 4) rfl
          have B2 := Lib.hid (below_step (below_one wr _) hb2)
          have ow2 := HOw.out.kept B2.out
          have ow3 := ow2
          unfold OwnAt at ow3
          rw [HAl.out] at ow3
          have f0 := World.ownsRow.frozenAt ow3 (i * 5)
          have f1 := World.ownsRow.frozenAt ow3 (i * 5 + 1)
          have f2 := World.ownsRow.frozenAt ow3 (i * 5 + 2)
          have f3 := World.ownsRow.frozenAt ow3 (i * 5 + 3)
          have f4 := World.ownsRow.frozenAt ow3 (i * 5 + 4)
          have k0 := ow2.cell encE_len HAl.out.symm hil (i := 0) rfl
          have k1 := ow2.cell encE_len HAl.out.symm hil (i := 1) rfl
          have k2 := ow2.cell encE_len HAl.out.symm hil (i := 2) rfl
          have k3 := ow2.cell encE_len HAl.out.symm hil (i := 3) rfl
          have k4 := ow2.cell encE_len HAl.out.symm hil (i := 4) rfl
          simp only [Nat.add_zero] at k0
          generalize A[i]! = ai at *
          clear hb2 q ow2 ow3
          go_wp2
          go_roundw
          case rel =>
            obtain ⟨p1, p2⟩ := HP.out w2 B2.out
            exact ⟨i + 1, j + 1, A.set i r, by simp, by simp, by omega, by omega, by rw [List.length_set]; exact HAl.out, by rw [take_set_at hil]; exact HS.out, by rw [List.drop_set_of_lt (by omega)]; exact HAd.out, p1, BoxAt.other (v := .slice (some ⟨g1, 0, none⟩) n cap) (HBx.out.below B2.out) (by decide) p2 (HOw.out.kept B2.out), gr_trans (gr_trans HGr.out (gr_weak (gr_of_below B2.out))) p2⟩
          case measure => simp [intOf]; omega
      · obtain rfl : j = n := by omega
        have hAt2 : A.take i = l.filter (above y) := by rw [hAt, List.take_of_length_le (by rw [N.out]; exact Nat.le_refl _)]
        have hcl : ∃ zs : List Value, ∀ ty, (Builtin.clear_ #[107] ty #[.slice (some ⟨g1, i * 5, none⟩) (j - i) (cap - i)]).run Try.prog wr = .ok (.tuple #[]) (wr.setCells g1 (i * 5) zs) := by
          have hrow : wr.ownsRow B 124 5 (.slice (some ⟨g1, 0, none⟩) j cap) j (A.flatMap encE) := by have := hown; unfold OwnAt at this; rwa [hAl] at this
          have hcell : ∀ t, t < (j - i) * 5 → (wr.cell? ⟨g1, i * 5 + t, none⟩).isSome = true := fun t ht => by
            have hlt : i * 5 + t < j * 5 := by omega
            rw [World.ownsRow.cellAt hrow _ hlt, List.getElem?_eq_getElem (by rw [flatMap_len encE 5 encE_len]; omega)]
            rfl
          exact ⟨_, fun ty => (run_clear_row wr _ 124 ty _ 5 Try.underlying107 Try.zeroValue124 rfl (by decide) (fun t ht => by
            match t, ht with
            | 0, _ => rfl
            | 1, _ => rfl
            | 2, _ => rfl
            | 3, _ => rfl
            | 4, _ => rfl
            | t + 5, h => omega) g1 (i * 5) (j - i) (cap - i) (by omega) hcell fun t _ => World.ownsRow.frozenAt hrow _)⟩
        obtain ⟨zs, hcl⟩ := hcl
        have hown2 := hown
        unfold OwnAt at hown2
        rw [hAl] at hown2
        obtain ⟨ys, o1, o2, o3⟩ := own_setCells zs (i * 5) wr _ hown2
        rw [flatMap_take encE 5 encE_len, hAt2] at o2
        have HC := Lib.hid (own_cut (l := l.filter (above y)) o1 (show i ≤ j by omega) (by rw [← hAt2, List.length_take]; omega) encE_len o2)
        have HG := Lib.hid (gr_trans hgr o3)
        clear hown hown2 o1 o2 o3 hgr hbx hAt hAd hAt2
        have hij' : (i : Int) < (j : Int) := by omega
        have hjc : (j : Int) ≤ (cap : Int) := by omega
        go_wp2
        go_ret
        exact ⟨_, rfl, HC.out, HG.out⟩
end Go.Proofs.Ytkpmgdhaollheaa
