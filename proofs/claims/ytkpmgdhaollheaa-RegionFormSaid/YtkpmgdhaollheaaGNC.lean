/- combine. -/
import Derived.Test.YtkpmgdhaollheaaGN
namespace Go.Proofs.Ytkpmgdhaollheaa
open Go.RowKit Go.Shelf

theorem keepUnion : KeepAt (fun m => decide (m ≠ 0)) 48 where
  enter := enters_of Try.func48 (by kernel_rfl) rfl
  says m w := by
    go_enter Try.func48, Try.ntmps48
    go_wp2
    go_ret
    exact ⟨ret_bool (by rw [Bool.eq_iff_iff]; simp), rfl⟩
theorem keepBoth : KeepAt (fun m => decide (m = 3)) 49 where
  enter := enters_of Try.func49 (by kernel_rfl) rfl
  says m w := by
    go_enter Try.func49, Try.ntmps49
    go_wp2
    go_ret
    exact ⟨ret_bool (by rw [Bool.eq_iff_iff]; simp), rfl⟩
theorem keepWithout : KeepAt (fun m => decide (m = 1)) 50 where
  enter := enters_of Try.func50 (by kernel_rfl) rfl
  says m w := by
    go_enter Try.func50, Try.ntmps50
    go_wp2
    go_ret
    exact ⟨ret_bool (by rw [Bool.eq_iff_iff]; simp), rfl⟩

set_option maxHeartbeats 2000000 in
set_option maxRecDepth 100000 in
theorem combine_any (K : Int → Bool) (k : Bool → Bool → Bool) (g : Nat) (hK : KeepAt K g) (hk : ∀ p q, keepK K ((maskN [p, q] : Nat) : Int) = k p q) (va vb : Value) (a b : List Rc) (w : World) (ha : RectsAt w va a) (hb : RectsAt w vb b) :
    Calls Try.prog 47 #[.agg #[va], .agg #[vb], .func (.func g) #[] #[]] w fun e w' => RetR w.heap.size w' e (CombR k a b) ∧ Below w.heap.size w w' := by
  have HVa := Lib.hid (fun (w' : World) (h : Below w.heap.size w w') => valid_any va a w' (ha.below h))
  have HVb := Lib.hid (fun (w' : World) (h : Below w.heap.size w w') => valid_any vb b w' (hb.below h))
  have HCh := Lib.hid (fun (w' : World) (h : Below w.heap.size w w') (pa : ValidP a) (pb : ValidP b) => choose2_any K k g hK hk va vb a b w' (ha.below h) (hb.below h) (by have := pa.1; have := pb.1; omega) (fun r hr => (pa.2.1 r hr).2.1) fun r hr => (pb.2.1 r hr).2.1)
  obtain ⟨pa, ca, rfl⟩ := ha.shape
  obtain ⟨pb, cb, rfl⟩ := hb.shape
  clear ha hb
  generalize hna : a.length = na at *
  generalize hnb : b.length = nb at *
  have b3 : Below w.heap.size w (((w.alloc (.cells #[.slice pa na ca] 27)).alloc (.cells #[.slice pb nb cb] 27)).alloc (.cells #[.slice none 0 0] 27)) := (((Below.refl _ _).alloc (Nat.le_refl _) _).alloc (by simp) _).alloc (by simp; omega) _
  have x1 : BoxAt (((w.alloc (.cells #[.slice pa na ca] 27)).alloc (.cells #[.slice pb nb cb] 27)).alloc (.cells #[.slice none 0 0] 27)) w.heap.size #[.slice pa na ca] 27 := ((BoxAt.new _ _ _).alloc _).alloc _
  have x2 : BoxAt (((w.alloc (.cells #[.slice pa na ca] 27)).alloc (.cells #[.slice pb nb cb] 27)).alloc (.cells #[.slice none 0 0] 27)) (w.heap.size + 1) #[.slice pb nb cb] 27 := by
    have := (BoxAt.new (w.alloc (.cells #[.slice pa na ca] 27)) #[.slice pb nb cb] 27).alloc (.cells #[.slice none 0 0] 27)
    simpa using this
  have x3 : BoxAt (((w.alloc (.cells #[.slice pa na ca] 27)).alloc (.cells #[.slice pb nb cb] 27)).alloc (.cells #[.slice none 0 0] 27)) (w.heap.size + 1 + 1) #[.slice none 0 0] 27 := by
    have := BoxAt.new ((w.alloc (.cells #[.slice pa na ca] 27)).alloc (.cells #[.slice pb nb cb] 27)) #[.slice none 0 0] 27
    simpa using this
  have B3 := Lib.hid b3
  have X1 := Lib.hid x1
  have X2 := Lib.hid x2
  have X3 := Lib.hid x3
  clear b3 x1 x2 x3
  by_cases hva : ValidP a
  · by_cases hvb : ValidP b
    · have PA := Lib.hid hva
      have PB := Lib.hid hvb
      clear hva hvb
      go_enter Try.func47, Try.ntmps47
      go_wp2_with fail
      refine Calls.mono (HVa.out _ B3.out) ?_
      rintro e w1 ⟨hr, hb1⟩
      obtain rfl := hr.is_yes PA.out
      have B4 := Lib.hid (below_step B3.out hb1)
      have Y1 := X1.out.below hb1
      have Y2 := X2.out.below hb1
      have Y3 := X3.out.below hb1
      have c1 := Y1.cell (i := 0) rfl
      have c2 := Y2.cell (i := 0) rfl
      have c3 := Y3.cell (i := 0) rfl
      have f3 := Y3.free 0
      have Y1 := Lib.hid Y1
      have Y2 := Lib.hid Y2
      have Y3 := Lib.hid Y3
      clear hr hb1
      go_wp2_with fail
      refine Calls.mono (HVb.out _ B4.out) ?_
      rintro e w2 ⟨hr, hb2⟩
      obtain rfl := hr.is_yes PB.out
      have B5 := Lib.hid (below_step B4.out hb2)
      have Z1 := Y1.out.below hb2
      have Z2 := Y2.out.below hb2
      have Z3 := Y3.out.below hb2
      have c1' := Z1.cell (i := 0) rfl
      have c2' := Z2.cell (i := 0) rfl
      have c3' := Z3.cell (i := 0) rfl
      have f3' := Z3.free 0
      have Z3 := Lib.hid Z3
      clear hr hb2 Z1 Z2
      go_wp2_with fail
      refine Calls.mono (HCh.out _ B5.out PA.out PB.out) ?_
      rintro e w3 ⟨v3, out, rfl, ho, hcan, hlen, hb3⟩
      obtain ⟨p3, k3, rfl⟩ := ho.shape
      have B6 := Lib.hid (below_step B5.out hb3)
      have U3 := Lib.hid (Z3.out.below hb3)
      have HO := Lib.hid ho
      have HCan := Lib.hid hcan
      have HLen := Lib.hid (lim8 hlen (by have := PA.out.1; have := PB.out.1; omega))
      have HZ := Lib.hid Z3.out.lt
      clear ho hcan hlen hb3
      go_wp2_with fail
      refine Calls.mono (limited_any _ out w2.heap.size _ HO.out.rects (ownsRow_ge HO.out) HLen.out) ?_
      rintro e w4 ⟨⟨v4, l4, e4, rfl, hr4, hv4, hL4⟩, hb4⟩
      obtain ⟨p4, k4, rfl⟩ := hr4.shape
      have B7 := Lib.hid (below_step B6.out hb4)
      have R3 := U3.out.below hb4
      have c4 := R3.cell (i := 0) rfl
      have f4 := R3.free 0
      have R3 := Lib.hid R3
      have HR4 := Lib.hid hr4
      have HV4 := Lib.hid hv4
      have HL4 := Lib.hid hL4
      clear hr4 hv4 hL4 hb4
      go_wp2
      have hz := HZ.out
      refine bodyPost_ret (ret_re rfl rfl rfl (R3.out.set 0 (.slice p4 l4.length k4))) rfl ⟨⟨_, l4, e4, rfl, HR4.out.set (fun k hk => ?_) _ _, (fun k hk => ?_), .inr ⟨PA.out, PB.out, out, HCan.out, HL4.out⟩⟩, B7.out.setCell (by show w.heap.size ≤ w.heap.size + 1 + 1; omega) _⟩
      · have := HV4.out k hk; omega
      · have := HV4.out k hk; omega
    · have PA := Lib.hid hva
      have PB := Lib.hid hvb
      clear hva hvb
      go_enter Try.func47, Try.ntmps47
      go_wp2_with fail
      refine Calls.mono (HVa.out _ B3.out) ?_
      rintro e w1 ⟨hr, hb1⟩
      obtain rfl := hr.is_yes PA.out
      have B4 := Lib.hid (below_step B3.out hb1)
      have Y1 := X1.out.below hb1
      have Y2 := X2.out.below hb1
      have Y3 := X3.out.below hb1
      have c1 := Y1.cell (i := 0) rfl
      have c2 := Y2.cell (i := 0) rfl
      have c3 := Y3.cell (i := 0) rfl
      have f3 := Y3.free 0
      have Y1 := Lib.hid Y1
      have Y2 := Lib.hid Y2
      have Y3 := Lib.hid Y3
      clear hr hb1
      go_wp2_with fail
      refine Calls.mono (HVb.out _ B4.out) ?_
      rintro e w2 ⟨hr, hb2⟩
      obtain rfl := hr.is_no PB.out
      have B5 := Lib.hid (below_step B4.out hb2)
      have Z1 := Y1.out.below hb2
      have Z2 := Y2.out.below hb2
      have Z3 := Y3.out.below hb2
      have c1' := Z1.cell (i := 0) rfl
      have c2' := Z2.cell (i := 0) rfl
      have c3' := Z3.cell (i := 0) rfl
      have f3' := Z3.free 0
      have Z3 := Lib.hid Z3
      clear hr hb2 Z1 Z2
      go_wp2
      exact bodyPost_ret (ret_re rfl rfl rfl (Z3.out.set 0 (.slice none 0 0))) rfl ⟨⟨_, [], 7, rfl, RectsAt.nil _, nil_own _, .inl ⟨fun h => PB.out h.2, rfl, rfl⟩⟩, B5.out.setCell (by show w.heap.size ≤ w.heap.size + 1 + 1; omega) _⟩
  · have PA := Lib.hid hva
    clear hva
    go_enter Try.func47, Try.ntmps47
    go_wp2_with fail
    refine Calls.mono (HVa.out _ B3.out) ?_
    rintro e w1 ⟨hr, hb1⟩
    obtain rfl := hr.is_no PA.out
    have B4 := Lib.hid (below_step B3.out hb1)
    have Y1 := X1.out.below hb1
    have Y2 := X2.out.below hb1
    have Y3 := X3.out.below hb1
    have c1 := Y1.cell (i := 0) rfl
    have c2 := Y2.cell (i := 0) rfl
    have c3 := Y3.cell (i := 0) rfl
    have f3 := Y3.free 0
    have Y1 := Lib.hid Y1
    have Y2 := Lib.hid Y2
    have Y3 := Lib.hid Y3
    clear hr hb1
    go_wp2
    exact bodyPost_ret (ret_re rfl rfl rfl (Y3.out.set 0 (.slice none 0 0))) rfl ⟨⟨_, [], 7, rfl, RectsAt.nil _, nil_own _, .inl ⟨fun h => PA.out h.1, rfl, rfl⟩⟩, B4.out.setCell (by show w.heap.size ≤ w.heap.size + 1 + 1; omega) _⟩
end Go.Proofs.Ytkpmgdhaollheaa
