/- The reference's Valid, Union, Both, Without, Size, Area, Has, Same, Within, Meets. -/
import Derived.Test.YtdpnkbbphfcngaaGX
import Derived.Test.YtdpnkbbphfcngaaGWth
import Derived.Test.YtdpnkbbphfcngaaGGood
namespace Go.Proofs.Ytdpnkbbphfcngaa
open Go.RowKit Go.Shelf

theorem RetB.iff {e : Ending} {P Q : Prop} (h : RetB e P) (hpq : P ↔ Q) : RetB e Q := by
  obtain ⟨b, he, hb⟩ := h
  exact ⟨b, he, hb.trans hpq⟩

theorem refL_for (how : Int) (a b : List Rc) : CanonFor (fun x y => refK how (insideB a x y) (insideB b x y)) (refL (refK how) a b (xsOf (a ++ b)) (ysOf (a ++ b))) :=
  ref_for (k := refK how) (refK_ff how) (xsOf_ok (a ++ b)).1 (ysOf_ok (a ++ b)).1 (fun r hr => (xsOf_ok (a ++ b)).2.1 r (List.mem_append.2 hr)) (fun r hr => (ysOf_ok (a ++ b)).2.1 r (List.mem_append.2 hr))


set_option maxHeartbeats 2000000 in
set_option maxRecDepth 100000 in
theorem refValid_any (v : Value) (l : List Rc) (w : World) (h : RectsAt w v l) :
    Calls Try.prog 40 #[.agg #[v]] w fun e w' => RetB e (ValidP l) ∧ Below w.heap.size w w' := by
  have HR := Lib.hid h
  obtain ⟨p, cap, hv, hm, hcp, hc⟩ := h
  have HL := Lib.hid hc
  obtain ⟨n, hn⟩ : ∃ n, n = l.length := ⟨_, rfl⟩
  rw [← hn] at hv hm
  subst hv
  have hm' : (n : Int) ≤ 9223372036854775807 := by unfold maxLen at hm; omega
  have N := Lib.hid hn
  clear hn hc hcp
  by_cases hl : n ≤ 120
  · have hl' : ¬ ((120 : Int) < (n : Int)) := by omega
    go_enter Try.func40, Try.ntmps40
    go_wp2
    go_loopw [12] (fun i wr => ∃ k : Nat, k ≤ n ∧ i = .int .i64 k ∧ allP (l.take k) = true ∧ Below w.heap.size w wr ∧ BoxAt wr w.heap.size #[.slice p n cap] 24) (fun i _ => n - (intOf i).toNat)
    case atStart => exact ⟨0, Nat.zero_le _, rfl, rfl, (Below.refl _ _).alloc (Nat.le_refl _) _, BoxAt.new ..⟩
    case round =>
      obtain ⟨k, hk, rfl, hall, hb, hbx⟩ := hrel
      have HBx := Lib.hid hbx
      have bz := hbx.lt
      by_cases hkn : k < n
      · obtain ⟨b, off, rfl, hlt, hc⟩ := HL.out k (by rw [← N.out]; exact hkn)
        obtain ⟨c0, c1, c2, c3⟩ := hc.below hb hlt
        have hkn' : (k : Int) < (n : Int) := by omega
        have n1 : b ≠ wr.heap.size := by omega
        have HB := Lib.hid hb
        have HN := Lib.hid (fun h => allP_take_no (l := l) (k := k) (by rw [← N.out]; exact hkn) h)
        have HY := Lib.hid (fun h => allP_take_yes (l := l) (k := k) (by rw [← N.out]; exact hkn) hall h)
        clear hc hb hall hbx
        generalize l[k]! = r at *
        have HPr := Lib.hid (fun (W : World) => refProper_any r W)
        by_cases hp : properR r
        · have HA := Lib.hid (HY.out hp)
          have HPP := Lib.hid hp
          clear hp
          go_wp2_with (go_at_call 50; refine Calls.mono (HPr.out _) ?_; rintro e w2 ⟨hr, hb2⟩; obtain rfl := hr.is_yes HPP.out; have B2 := Lib.hid (below_step (HB.out.alloc HB.out.size _) hb2); have X2 := Lib.hid ((HBx.out.alloc _).below hb2); clear hr hb2)
          go_roundw
          case rel => exact ⟨k + 1, by omega, by simp, HA.out, B2.out, X2.out⟩
          case measure => simp [intOf]; omega
        · have HA := Lib.hid (HN.out hp)
          have HPP := Lib.hid hp
          clear hp
          go_wp2_with (go_at_call 50; refine Calls.mono (HPr.out _) ?_; rintro e w2 ⟨hr, hb2⟩; obtain rfl := hr.is_no HPP.out; have B2 := Lib.hid (below_step (HB.out.alloc HB.out.size _) hb2); clear hr hb2)
          go_ret
          exact ⟨RetB.no fun h => (by have h2 := allP_iff.2 h.2.1; rw [HA.out] at h2; cases h2), B2.out⟩
      · obtain rfl : k = n := by omega
        have HA := Lib.hid (show allP l = true by rw [List.take_of_length_le (by rw [← N.out]; exact Nat.le_refl _)] at hall; exact hall)
        have HB := Lib.hid hb
        have HV := Lib.hid (show ∀ out : List Rc, CanonFor (insideB l) out → (out = l ↔ ValidP l) from fun out hcan => ⟨fun e => ⟨by rw [← N.out]; exact hl, allP_iff.1 HA.out, by rw [← e]; exact hcan.canonical⟩, fun hv => canon_unique hcan hv.2.2.for⟩)
        have HR2 := Lib.hid (HR.out.below hb)
        have KS := Lib.hid (fun (w' : World) (h : Below wr.heap.size wr w') => (⟨(hbx.below h).cell (i := 0) rfl, h⟩ : w'.cell? ⟨w.heap.size, 0, none⟩ = some (.slice p k cap) ∧ Below wr.heap.size wr w'))
        have HC := Lib.hid (fun (w' : World) (h : Below wr.heap.size wr w') => refCombine_any (.slice p k cap) (.slice none 0 0) l [] 1 w' (HR2.out.below h) (RectsAt.nil _) (by rw [← N.out]; omega) (by simp))
        have HCan := Lib.hid (refL_of (l := l))
        clear hall hb hbx
        generalize refL (refK 1) l [] (xsOf (l ++ [])) (ysOf (l ++ [])) = out at HC HCan
        generalize hk120 : k = kk at *
        clear hk120
        go_wp2_with fail
        refine wp_region_noPanic ?_
        go_region_held3 (fun w' => w'.cell? ⟨w.heap.size, 0, none⟩ = some (.slice p kk cap) ∧ Below wr.heap.size wr w') (exact KS.out _ (by first | assumption | exact Below.drew (by assumption) | exact Below.drew (Below.refl _ _))) (first
          | (go_at_call 52; (with_reducible refine (HC.out _ (by first | assumption | exact Below.drew (Below.refl _ _))).mono ?_); rintro e w3 ⟨v3, rfl, ho, hln, hb⟩; obtain ⟨p3, c3, rfl⟩ := ho.shape; have O3 := Lib.hid ho.rects; have kb : Below wr.heap.size wr w3 := below_step (by first | assumption | exact Below.drew (Below.refl _ _)) hb; clear hb ho hln)
          | (go_at_call 43; refine (refRects_any _ _ out l _ O3.out (HR2.out.below (by assumption))).mono ?_; rintro e w4 ⟨⟨bb, rfl, hbb⟩, hb⟩; have HBB := Lib.hid hbb; have kb : Below wr.heap.size wr w4 := below_step (by assumption) hb; clear hb hbb))
        refine NoPanic.normal ?_
        go_wp2
        go_ret
        exact ⟨⟨bb, rfl, HBB.out.trans (HV.out out HCan.out)⟩, below_step HB.out (by assumption)⟩
  · have hl' : (120 : Int) < (n : Int) := by omega
    go_enter Try.func40, Try.ntmps40
    go_wp2
    go_ret
    exact ⟨RetB.no fun h => (by have := h.1; rw [← N.out] at this; omega), (Below.refl _ _).alloc (Nat.le_refl _) _⟩

set_option maxHeartbeats 2000000 in
set_option maxRecDepth 100000 in
theorem refcomb_any (how : Int) (va vb : Value) (a b : List Rc) (w : World) (ha : RectsAt w va a) (hb : RectsAt w vb b) :
    Calls Try.prog 95 #[.agg #[va], .agg #[vb], .int .i64 how] w fun e w' => RetR w.heap.size w' e (CombR (refK how) a b) ∧ Below w.heap.size w w' := by
  have HVa := Lib.hid (fun (w' : World) (h : Below w.heap.size w w') => refValid_any va a w' (ha.below h))
  have HVb := Lib.hid (fun (w' : World) (h : Below w.heap.size w w') => refValid_any vb b w' (hb.below h))
  have HCh := Lib.hid (fun (w' : World) (h : Below w.heap.size w w') (pa : ValidP a) (pb : ValidP b) => refCombine_any va vb a b how w' (ha.below h) (hb.below h) (by have := pa.1; omega) (by have := pb.1; omega))
  obtain ⟨pa, ca, rfl⟩ := ha.shape
  obtain ⟨pb, cb, rfl⟩ := hb.shape
  clear ha hb
  generalize hna : a.length = na at *
  generalize hnb : b.length = nb at *
  have b3 : Below w.heap.size w (((w.alloc (.cells #[.slice pa na ca] 24)).alloc (.cells #[.slice pb nb cb] 24)).alloc (.cells #[.slice none 0 0] 24)) := (((Below.refl _ _).alloc (Nat.le_refl _) _).alloc (by simp) _).alloc (by simp; omega) _
  have x1 : BoxAt (((w.alloc (.cells #[.slice pa na ca] 24)).alloc (.cells #[.slice pb nb cb] 24)).alloc (.cells #[.slice none 0 0] 24)) w.heap.size #[.slice pa na ca] 24 := ((BoxAt.new _ _ _).alloc _).alloc _
  have x2 : BoxAt (((w.alloc (.cells #[.slice pa na ca] 24)).alloc (.cells #[.slice pb nb cb] 24)).alloc (.cells #[.slice none 0 0] 24)) (w.heap.size + 1) #[.slice pb nb cb] 24 := by
    have := (BoxAt.new (w.alloc (.cells #[.slice pa na ca] 24)) #[.slice pb nb cb] 24).alloc (.cells #[.slice none 0 0] 24)
    simpa using this
  have x3 : BoxAt (((w.alloc (.cells #[.slice pa na ca] 24)).alloc (.cells #[.slice pb nb cb] 24)).alloc (.cells #[.slice none 0 0] 24)) (w.heap.size + 1 + 1) #[.slice none 0 0] 24 := by
    have := BoxAt.new ((w.alloc (.cells #[.slice pa na ca] 24)).alloc (.cells #[.slice pb nb cb] 24)) #[.slice none 0 0] 24
    simpa using this
  have B3 := Lib.hid b3
  have X1 := Lib.hid x1
  have X2 := Lib.hid x2
  have X3 := Lib.hid x3
  clear b3 x1 x2 x3
  by_cases hva : ValidP a
  · by_cases hvb : ValidP b
    · have PA := Lib.hid hva
      have PB := Lib.hid hvb
      clear hva hvb
      go_enter Try.func95, Try.ntmps95
      go_wp2_with fail
      refine Calls.mono (HVa.out _ B3.out) ?_
      rintro e w1 ⟨hr, hb1⟩
      obtain rfl := hr.is_yes PA.out
      have B4 := Lib.hid (below_step B3.out hb1)
      have Y1 := X1.out.below hb1
      have Y2 := X2.out.below hb1
      have Y3 := X3.out.below hb1
      have c1 := Y1.cell (i := 0) rfl
      have c2 := Y2.cell (i := 0) rfl
      have c3 := Y3.cell (i := 0) rfl
      have f3 := Y3.free 0
      have Y1 := Lib.hid Y1
      have Y2 := Lib.hid Y2
      have Y3 := Lib.hid Y3
      clear hr hb1
      go_wp2_with fail
      refine Calls.mono (HVb.out _ B4.out) ?_
      rintro e w2 ⟨hr, hb2⟩
      obtain rfl := hr.is_yes PB.out
      have B5 := Lib.hid (below_step B4.out hb2)
      have Z1 := Y1.out.below hb2
      have Z2 := Y2.out.below hb2
      have Z3 := Y3.out.below hb2
      have c1' := Z1.cell (i := 0) rfl
      have c2' := Z2.cell (i := 0) rfl
      have c3' := Z3.cell (i := 0) rfl
      have f3' := Z3.free 0
      have Z3 := Lib.hid Z3
      clear hr hb2 Z1 Z2
      go_wp2_with fail
      refine Calls.mono (HCh.out _ B5.out PA.out PB.out) ?_
      rintro e w3 ⟨v3, rfl, ho, hlen, hb3⟩
      have hcan := refL_for how a b
      generalize refL (refK how) a b (xsOf (a ++ b)) (ysOf (a ++ b)) = out at *
      obtain ⟨p3, k3, rfl⟩ := ho.shape
      have B6 := Lib.hid (below_step B5.out hb3)
      have U3 := Lib.hid (Z3.out.below hb3)
      have HO := Lib.hid ho
      have HCan := Lib.hid hcan
      have HLen := Lib.hid hlen
      have HZ := Lib.hid Z3.out.lt
      clear ho hcan hlen hb3
      go_wp2_with fail
      refine Calls.mono (refBound_any _ out w2.heap.size _ HO.out.rects (ownsRow_ge HO.out) HLen.out) ?_
      rintro e w4 ⟨⟨v4, l4, e4, rfl, hr4, hv4, hL4⟩, hb4⟩
      obtain ⟨p4, k4, rfl⟩ := hr4.shape
      have B7 := Lib.hid (below_step B6.out hb4)
      have R3 := U3.out.below hb4
      have c4 := R3.cell (i := 0) rfl
      have f4 := R3.free 0
      have R3 := Lib.hid R3
      have HR4 := Lib.hid hr4
      have HV4 := Lib.hid hv4
      have HL4 := Lib.hid hL4
      clear hr4 hv4 hL4 hb4
      go_wp2
      have hz := HZ.out
      refine bodyPost_ret (ret_re rfl rfl rfl (R3.out.set 0 (.slice p4 l4.length k4))) rfl ⟨⟨_, l4, e4, rfl, HR4.out.set (fun k hk => ?_) _ _, (fun k hk => ?_), .inr ⟨PA.out, PB.out, out, HCan.out, HL4.out⟩⟩, B7.out.setCell (by show w.heap.size ≤ w.heap.size + 1 + 1; omega) _⟩
      · have := HV4.out k hk; omega
      · have := HV4.out k hk; omega
    · have PA := Lib.hid hva
      have PB := Lib.hid hvb
      clear hva hvb
      go_enter Try.func95, Try.ntmps95
      go_wp2_with fail
      refine Calls.mono (HVa.out _ B3.out) ?_
      rintro e w1 ⟨hr, hb1⟩
      obtain rfl := hr.is_yes PA.out
      have B4 := Lib.hid (below_step B3.out hb1)
      have Y1 := X1.out.below hb1
      have Y2 := X2.out.below hb1
      have Y3 := X3.out.below hb1
      have c1 := Y1.cell (i := 0) rfl
      have c2 := Y2.cell (i := 0) rfl
      have c3 := Y3.cell (i := 0) rfl
      have f3 := Y3.free 0
      have Y1 := Lib.hid Y1
      have Y2 := Lib.hid Y2
      have Y3 := Lib.hid Y3
      clear hr hb1
      go_wp2_with fail
      refine Calls.mono (HVb.out _ B4.out) ?_
      rintro e w2 ⟨hr, hb2⟩
      obtain rfl := hr.is_no PB.out
      have B5 := Lib.hid (below_step B4.out hb2)
      have Z1 := Y1.out.below hb2
      have Z2 := Y2.out.below hb2
      have Z3 := Y3.out.below hb2
      have c1' := Z1.cell (i := 0) rfl
      have c2' := Z2.cell (i := 0) rfl
      have c3' := Z3.cell (i := 0) rfl
      have f3' := Z3.free 0
      have Z3 := Lib.hid Z3
      clear hr hb2 Z1 Z2
      go_wp2
      exact bodyPost_ret (ret_re rfl rfl rfl (Z3.out.set 0 (.slice none 0 0))) rfl ⟨⟨_, [], 7, rfl, RectsAt.nil _, nil_own _, .inl ⟨fun h => PB.out h.2, rfl, rfl⟩⟩, B5.out.setCell (by show w.heap.size ≤ w.heap.size + 1 + 1; omega) _⟩
  · have PA := Lib.hid hva
    clear hva
    go_enter Try.func95, Try.ntmps95
    go_wp2_with fail
    refine Calls.mono (HVa.out _ B3.out) ?_
    rintro e w1 ⟨hr, hb1⟩
    obtain rfl := hr.is_no PA.out
    have B4 := Lib.hid (below_step B3.out hb1)
    have Y1 := X1.out.below hb1
    have Y2 := X2.out.below hb1
    have Y3 := X3.out.below hb1
    have c1 := Y1.cell (i := 0) rfl
    have c2 := Y2.cell (i := 0) rfl
    have c3 := Y3.cell (i := 0) rfl
    have f3 := Y3.free 0
    have Y1 := Lib.hid Y1
    have Y2 := Lib.hid Y2
    have Y3 := Lib.hid Y3
    clear hr hb1
    go_wp2
    exact bodyPost_ret (ret_re rfl rfl rfl (Y3.out.set 0 (.slice none 0 0))) rfl ⟨⟨_, [], 7, rfl, RectsAt.nil _, nil_own _, .inl ⟨fun h => PA.out h.1, rfl, rfl⟩⟩, B4.out.setCell (by show w.heap.size ≤ w.heap.size + 1 + 1; omega) _⟩

set_option maxHeartbeats 2000000 in
set_option maxRecDepth 100000 in
theorem refUnion_any (va vb : Value) (a b : List Rc) (w : World) (ha : RectsAt w va a) (hb : RectsAt w vb b) :
    Calls Try.prog 53 #[.agg #[va], .agg #[vb]] w fun e w' => RetR w.heap.size w' e (CombR (fun a b => a || b) a b) ∧ Below w.heap.size w w' := by
  have HK : refK 1 = (fun a b => a || b) := by funext x y; cases x <;> cases y <;> rfl
  have HC := Lib.hid (fun (w' : World) (h : Below w.heap.size w w') => refcomb_any 1 va vb a b w' (ha.below h) (hb.below h))
  rw [HK] at HC
  clear HK
  obtain ⟨pa, ca, rfl⟩ := ha.shape
  obtain ⟨pb, cb, rfl⟩ := hb.shape
  clear ha hb
  generalize hna : a.length = na at *
  generalize hnb : b.length = nb at *
  have b3 : Below w.heap.size w (((w.alloc (.cells #[.slice pa na ca] 24)).alloc (.cells #[.slice pb nb cb] 24)).alloc (.cells #[.slice none 0 0] 24)) := (((Below.refl _ _).alloc (Nat.le_refl _) _).alloc (by simp) _).alloc (by simp; omega) _
  have x3 : BoxAt (((w.alloc (.cells #[.slice pa na ca] 24)).alloc (.cells #[.slice pb nb cb] 24)).alloc (.cells #[.slice none 0 0] 24)) (w.heap.size + 1 + 1) #[.slice none 0 0] 24 := by
    have := BoxAt.new ((w.alloc (.cells #[.slice pa na ca] 24)).alloc (.cells #[.slice pb nb cb] 24)) #[.slice none 0 0] 24
    simpa using this
  have B3 := Lib.hid b3
  have X3 := Lib.hid x3
  clear b3 x3
  go_enter Try.func53, Try.ntmps53
  go_wp2_with fail
  refine Calls.mono (HC.out _ B3.out) ?_
  rintro e w4 ⟨⟨v4, l4, e4, rfl, hr4, hv4, hL4⟩, hb4⟩
  obtain ⟨p4, k4, rfl⟩ := hr4.shape
  have B7 := Lib.hid (below_step B3.out hb4)
  have R3 := X3.out.below hb4
  have c4 := R3.cell (i := 0) rfl
  have f4 := R3.free 0
  have R3 := Lib.hid R3
  have HR4 := Lib.hid hr4
  have HV4 := Lib.hid hv4
  have HL4 := Lib.hid hL4
  clear hr4 hv4 hL4 hb4
  go_wp2
  have hz := X3.out.lt
  refine bodyPost_ret (ret_re rfl rfl rfl (R3.out.set 0 (.slice p4 l4.length k4))) rfl ⟨⟨_, l4, e4, rfl, HR4.out.set (fun k hk => ?_) _ _, (fun k hk => ?_), HL4.out⟩, B7.out.setCell (by show w.heap.size ≤ w.heap.size + 1 + 1; omega) _⟩
  · have := HV4.out k hk; omega
  · have := HV4.out k hk; omega


set_option maxHeartbeats 2000000 in
set_option maxRecDepth 100000 in
theorem refBoth_any (va vb : Value) (a b : List Rc) (w : World) (ha : RectsAt w va a) (hb : RectsAt w vb b) :
    Calls Try.prog 54 #[.agg #[va], .agg #[vb]] w fun e w' => RetR w.heap.size w' e (CombR (fun a b => a && b) a b) ∧ Below w.heap.size w w' := by
  have HK : refK 2 = (fun a b => a && b) := by funext x y; cases x <;> cases y <;> rfl
  have HC := Lib.hid (fun (w' : World) (h : Below w.heap.size w w') => refcomb_any 2 va vb a b w' (ha.below h) (hb.below h))
  rw [HK] at HC
  clear HK
  obtain ⟨pa, ca, rfl⟩ := ha.shape
  obtain ⟨pb, cb, rfl⟩ := hb.shape
  clear ha hb
  generalize hna : a.length = na at *
  generalize hnb : b.length = nb at *
  have b3 : Below w.heap.size w (((w.alloc (.cells #[.slice pa na ca] 24)).alloc (.cells #[.slice pb nb cb] 24)).alloc (.cells #[.slice none 0 0] 24)) := (((Below.refl _ _).alloc (Nat.le_refl _) _).alloc (by simp) _).alloc (by simp; omega) _
  have x3 : BoxAt (((w.alloc (.cells #[.slice pa na ca] 24)).alloc (.cells #[.slice pb nb cb] 24)).alloc (.cells #[.slice none 0 0] 24)) (w.heap.size + 1 + 1) #[.slice none 0 0] 24 := by
    have := BoxAt.new ((w.alloc (.cells #[.slice pa na ca] 24)).alloc (.cells #[.slice pb nb cb] 24)) #[.slice none 0 0] 24
    simpa using this
  have B3 := Lib.hid b3
  have X3 := Lib.hid x3
  clear b3 x3
  go_enter Try.func54, Try.ntmps54
  go_wp2_with fail
  refine Calls.mono (HC.out _ B3.out) ?_
  rintro e w4 ⟨⟨v4, l4, e4, rfl, hr4, hv4, hL4⟩, hb4⟩
  obtain ⟨p4, k4, rfl⟩ := hr4.shape
  have B7 := Lib.hid (below_step B3.out hb4)
  have R3 := X3.out.below hb4
  have c4 := R3.cell (i := 0) rfl
  have f4 := R3.free 0
  have R3 := Lib.hid R3
  have HR4 := Lib.hid hr4
  have HV4 := Lib.hid hv4
  have HL4 := Lib.hid hL4
  clear hr4 hv4 hL4 hb4
  go_wp2
  have hz := X3.out.lt
  refine bodyPost_ret (ret_re rfl rfl rfl (R3.out.set 0 (.slice p4 l4.length k4))) rfl ⟨⟨_, l4, e4, rfl, HR4.out.set (fun k hk => ?_) _ _, (fun k hk => ?_), HL4.out⟩, B7.out.setCell (by show w.heap.size ≤ w.heap.size + 1 + 1; omega) _⟩
  · have := HV4.out k hk; omega
  · have := HV4.out k hk; omega


set_option maxHeartbeats 2000000 in
set_option maxRecDepth 100000 in
theorem refWithout_any (va vb : Value) (a b : List Rc) (w : World) (ha : RectsAt w va a) (hb : RectsAt w vb b) :
    Calls Try.prog 55 #[.agg #[va], .agg #[vb]] w fun e w' => RetR w.heap.size w' e (CombR (fun a b => a && !b) a b) ∧ Below w.heap.size w w' := by
  have HK : refK 3 = (fun a b => a && !b) := by funext x y; cases x <;> cases y <;> rfl
  have HC := Lib.hid (fun (w' : World) (h : Below w.heap.size w w') => refcomb_any 3 va vb a b w' (ha.below h) (hb.below h))
  rw [HK] at HC
  clear HK
  obtain ⟨pa, ca, rfl⟩ := ha.shape
  obtain ⟨pb, cb, rfl⟩ := hb.shape
  clear ha hb
  generalize hna : a.length = na at *
  generalize hnb : b.length = nb at *
  have b3 : Below w.heap.size w (((w.alloc (.cells #[.slice pa na ca] 24)).alloc (.cells #[.slice pb nb cb] 24)).alloc (.cells #[.slice none 0 0] 24)) := (((Below.refl _ _).alloc (Nat.le_refl _) _).alloc (by simp) _).alloc (by simp; omega) _
  have x3 : BoxAt (((w.alloc (.cells #[.slice pa na ca] 24)).alloc (.cells #[.slice pb nb cb] 24)).alloc (.cells #[.slice none 0 0] 24)) (w.heap.size + 1 + 1) #[.slice none 0 0] 24 := by
    have := BoxAt.new ((w.alloc (.cells #[.slice pa na ca] 24)).alloc (.cells #[.slice pb nb cb] 24)) #[.slice none 0 0] 24
    simpa using this
  have B3 := Lib.hid b3
  have X3 := Lib.hid x3
  clear b3 x3
  go_enter Try.func55, Try.ntmps55
  go_wp2_with fail
  refine Calls.mono (HC.out _ B3.out) ?_
  rintro e w4 ⟨⟨v4, l4, e4, rfl, hr4, hv4, hL4⟩, hb4⟩
  obtain ⟨p4, k4, rfl⟩ := hr4.shape
  have B7 := Lib.hid (below_step B3.out hb4)
  have R3 := X3.out.below hb4
  have c4 := R3.cell (i := 0) rfl
  have f4 := R3.free 0
  have R3 := Lib.hid R3
  have HR4 := Lib.hid hr4
  have HV4 := Lib.hid hv4
  have HL4 := Lib.hid hL4
  clear hr4 hv4 hL4 hb4
  go_wp2
  have hz := X3.out.lt
  refine bodyPost_ret (ret_re rfl rfl rfl (R3.out.set 0 (.slice p4 l4.length k4))) rfl ⟨⟨_, l4, e4, rfl, HR4.out.set (fun k hk => ?_) _ _, (fun k hk => ?_), HL4.out⟩, B7.out.setCell (by show w.heap.size ≤ w.heap.size + 1 + 1; omega) _⟩
  · have := HV4.out k hk; omega
  · have := HV4.out k hk; omega


set_option maxHeartbeats 2000000 in
set_option maxRecDepth 100000 in
theorem refSize_any (v : Value) (l : List Rc) (w : World) (h : RectsAt w v l) (hp : ∀ r ∈ l, properR r) (h120 : l.length ≤ 120) :
    Calls Try.prog 96 #[v] w fun e w' => e = .returned (.int .i64 (areaL l)) ∧ Below w.heap.size w w' := by
  obtain ⟨p, cap, rfl, hm, hcp, h⟩ := h
  have HL := Lib.hid h
  obtain ⟨n, hn⟩ : ∃ n, n = l.length := ⟨_, rfl⟩
  rw [← hn] at h120 ⊢
  have hm' : (n : Int) ≤ 120 := by omega
  have N := Lib.hid hn
  have HPR := Lib.hid hp
  clear h hm hcp hn hp
  go_enter Try.func96, Try.ntmps96
  go_wp2_with fail
  go_loopw [3, 8] (fun s i wr => ∃ k : Nat, k ≤ n ∧ i = .int .i64 k ∧ s = .int .i64 (areaL (l.take k)) ∧ Below w.heap.size w wr) (fun _ i _ => n - (intOf i).toNat)
  case atStart => exact ⟨0, Nat.zero_le _, rfl, rfl, Below.refl _ _⟩
  case round =>
    obtain ⟨k, hk, rfl, rfl, hb⟩ := hrel
    by_cases hkn : k < n
    · obtain ⟨b, off, rfl, hlt, hc⟩ := HL.out k (by rw [← N.out]; exact hkn)
      obtain ⟨c0, c1, c2, c3⟩ := hc.below hb hlt
      have hkn' : (k : Int) < (n : Int) := by omega
      have hS := areaL_take (l := l) (k := k) (by rw [← N.out]; exact hkn)
      have hq := HPR.out l[k]! (by rw [getElem!_pos l k (by rw [← N.out]; exact hkn)]; exact List.getElem_mem _)
      have hA := areaL_le (l := l.take k) fun q hq => HPR.out q (List.mem_of_mem_take hq)
      have hR := areaR_le hq
      have hlen : (l.take k).length ≤ 120 := by rw [List.length_take]; omega
      have HB2 := Lib.hid hb
      clear hc hb
      generalize l[k]! = r at *
      generalize areaL (l.take k) = s at *
      have w1 : wrap64 (r.r - r.l) = r.r - r.l := by obtain ⟨q0, q1, q2, q3, q4, q5⟩ := hq; exact wrap_in (by omega) (by omega)
      have w2 : wrap64 (r.h - r.b) = r.h - r.b := by obtain ⟨q0, q1, q2, q3, q4, q5⟩ := hq; exact wrap_in (by omega) (by omega)
      have hSum := Lib.hid hS
      unfold areaR at hR
      have w3 : wrap64 ((r.r - r.l) * (r.h - r.b)) = (r.r - r.l) * (r.h - r.b) := wrap_in (by omega) (by omega)
      have w4 : wrap64 (s + (r.r - r.l) * (r.h - r.b)) = s + (r.r - r.l) * (r.h - r.b) := wrap_in (by omega) (by omega)
      clear hS hq hR hA hlen
      go_wp2
      go_roundw
      case rel => exact ⟨k + 1, by omega, by simp, by rw [hSum.out, w4]; rfl, HB2.out.alloc HB2.out.size _⟩
      case measure => simp [intOf]; omega
    · have HB2 := Lib.hid hb
      have C1 := Lib.hid (show areaL (l.take k) = areaL l by rw [List.take_of_length_le (by rw [← N.out]; omega)])
      obtain rfl : k = n := by omega
      clear hb
      go_wp2
      go_ret
      exact ⟨congrArg (fun z => Ending.returned (.int .i64 z)) C1.out, HB2.out⟩

set_option maxHeartbeats 2000000 in
set_option maxRecDepth 100000 in
theorem refArea_any (v : Value) (l : List Rc) (w : World) (h : RectsAt w v l) :
    Calls Try.prog 56 #[.agg #[v]] w fun e w' => ∃ z, e = .returned (.int .i64 z) ∧ AreaP l z ∧ Below w.heap.size w w' := by
  have HP := Lib.hid (fun (w' : World) (hb : Below w.heap.size w w') => refValid_any v l w' (h.below hb))
  have HS := Lib.hid (fun (w' : World) (hb : Below w.heap.size w w') (hV : ValidP l) => refSize_any v l w' (h.below hb) hV.2.1 hV.1)
  obtain ⟨p, cap, rfl⟩ := h.shape
  clear h
  generalize hn : l.length = n at *
  clear hn
  have X := Lib.hid (BoxAt.new w #[.slice p n cap] 24)
  have B := Lib.hid (show Below w.heap.size w (w.alloc (.cells #[.slice p n cap] 24)) from (Below.refl _ _).alloc (Nat.le_refl _) _)
  by_cases hV : ValidP l
  · have HV := Lib.hid hV
    clear hV
    go_enter Try.func56, Try.ntmps56
    go_wp2_with (first
      | (go_at_call 40; refine Calls.mono (HP.out _ B.out) ?_; rintro e w1 ⟨hr, hb⟩; obtain rfl := hr.is_yes HV.out; have hc0 := (X.out.below hb).cell (i := 0) rfl; have B1 := Lib.hid (below_step B.out hb); clear hb hr)
      | (go_at_call 96; refine Calls.mono (HS.out _ B1.out HV.out) ?_; rintro e w2 ⟨rfl, hb⟩; have B2 := Lib.hid (below_step B1.out hb); clear hb))
    go_ret
    exact ⟨_, rfl, ⟨fun _ => rfl, fun h => absurd HV.out h⟩, B2.out⟩
  · have HV := Lib.hid hV
    clear hV
    go_enter Try.func56, Try.ntmps56
    go_wp2_with (go_at_call 40; refine Calls.mono (HP.out _ B.out) ?_; rintro e w1 ⟨hr, hb⟩; obtain rfl := hr.is_no HV.out; have B1 := Lib.hid (below_step B.out hb); clear hb hr)
    go_ret
    exact ⟨0, rfl, ⟨fun h => absurd h HV.out, fun _ => rfl⟩, B1.out⟩

set_option maxHeartbeats 2000000 in
set_option maxRecDepth 100000 in
theorem refHas_any (v : Value) (l : List Rc) (x y : Int) (w : World) (h : RectsAt w v l) :
    Calls Try.prog 31 #[.agg #[v], .int .i64 x, .int .i64 y] w fun e w' => RetB e (ValidP l ∧ insideB l x y = true) ∧ Below w.heap.size w w' := by
  have HP := Lib.hid (fun (w' : World) (hb : Below w.heap.size w w') => refValid_any v l w' (h.below hb))
  have HS := Lib.hid (fun (w' : World) (hb : Below w.heap.size w w') => refInside_any v l x y w' (h.below hb))
  obtain ⟨p, cap, rfl⟩ := h.shape
  clear h
  generalize hn : l.length = n at *
  clear hn
  have X := Lib.hid (BoxAt.new w #[.slice p n cap] 24)
  have B := Lib.hid (show Below w.heap.size w (w.alloc (.cells #[.slice p n cap] 24)) from (Below.refl _ _).alloc (Nat.le_refl _) _)
  by_cases hV : ValidP l
  · have HV := Lib.hid hV
    clear hV
    go_enter Try.func31, Try.ntmps31
    go_wp2_with (first
      | (go_at_call 40; refine Calls.mono (HP.out _ B.out) ?_; rintro e w1 ⟨hr, hb⟩; obtain rfl := hr.is_yes HV.out; have hc0 := (X.out.below hb).cell (i := 0) rfl; have B1 := Lib.hid (below_step B.out hb); clear hb hr)
      | (go_at_call 67; refine Calls.mono (HS.out _ B1.out) ?_; rintro e w2 ⟨rfl, hb⟩; have B2 := Lib.hid (below_step B1.out hb); clear hb))
    go_ret
    exact ⟨⟨_, rfl, ⟨fun h => ⟨HV.out, h⟩, fun h => h.2⟩⟩, B2.out⟩
  · have HV := Lib.hid hV
    clear hV
    go_enter Try.func31, Try.ntmps31
    go_wp2_with (go_at_call 40; refine Calls.mono (HP.out _ B.out) ?_; rintro e w1 ⟨hr, hb⟩; obtain rfl := hr.is_no HV.out; have B1 := Lib.hid (below_step B.out hb); clear hb hr)
    go_ret
    exact ⟨RetB.no fun h => HV.out h.1, B1.out⟩

set_option maxHeartbeats 2000000 in
set_option maxRecDepth 100000 in
theorem refSameR_any (va vb : Value) (a b : List Rc) (w : World) (ha : RectsAt w va a) (hb : RectsAt w vb b) :
    Calls Try.prog 17 #[.agg #[va], .agg #[vb]] w fun e w' => RetB e (a = b) ∧ Below w.heap.size w w' := by
  have HT := Lib.hid (two_at w va vb)
  have HS := Lib.hid (refRects_any va vb a b _ (ha.below HT.out.bw) (hb.below HT.out.bw))
  obtain ⟨pa, ca, rfl⟩ := ha.shape
  obtain ⟨pb, cb, rfl⟩ := hb.shape
  clear ha hb
  generalize hna : a.length = na at *
  generalize hnb : b.length = nb at *
  clear hna hnb
  go_enter Try.func17, Try.ntmps17
  go_wp2_with (go_at_call 43; refine Calls.mono HS.out ?_; rintro e w1 ⟨⟨t, rfl, ht⟩, hb⟩; have HR := Lib.hid ht; have B1 := Lib.hid (below_step HT.out.bw hb); clear hb ht)
  go_ret
  exact ⟨⟨t, rfl, HR.out⟩, B1.out⟩

theorem refWithin_len {a b out : List Rc} (h : CanonFor (fun x y => refK 3 (insideB a x y) (insideB b x y)) out) : out.length = 0 ↔ Sub a b := by
  constructor
  · intro h0 x y hx
    have e : out = [] := List.length_eq_zero_iff.1 h0
    have := h.inside x y
    rw [e, hx] at this
    cases e2 : insideB b x y
    · rw [e2] at this; cases this
    · rfl
  · intro hs
    have e : out = [] := canon_unique h (canonical_nil.for.congr fun x y => by
      show false = refK 3 (insideB a x y) (insideB b x y)
      cases e1 : insideB a x y
      · cases insideB b x y <;> rfl
      · rw [hs x y e1]; rfl)
    rw [e]; rfl

set_option maxHeartbeats 2000000 in
set_option maxRecDepth 100000 in
theorem refWithin_any (va vb : Value) (a b : List Rc) (w : World) (ha : RectsAt w va a) (hb : RectsAt w vb b) :
    Calls Try.prog 57 #[.agg #[va], .agg #[vb]] w fun e w' => RetB e (ValidP a ∧ ValidP b ∧ (Sub a b)) ∧ Below w.heap.size w w' := by
  have HT := Lib.hid (two_at w va vb)
  have HVa := Lib.hid (fun (w' : World) (h : Below w.heap.size w w') => refValid_any va a w' (ha.below h))
  have HVb := Lib.hid (fun (w' : World) (h : Below w.heap.size w w') => refValid_any vb b w' (hb.below h))
  have HC := Lib.hid (fun (w' : World) (h : Below w.heap.size w w') (pa : ValidP a) (pb : ValidP b) => refCombine_any va vb a b 3 w' (ha.below h) (hb.below h) (by have := pa.1; omega) (by have := pb.1; omega))
  obtain ⟨pa, ca, rfl⟩ := ha.shape
  obtain ⟨pb, cb, rfl⟩ := hb.shape
  clear ha hb
  generalize hna : a.length = na at *
  generalize hnb : b.length = nb at *
  clear hna hnb
  have HCan := Lib.hid (refL_for 3 a b)
  generalize refL (refK 3) a b (xsOf (a ++ b)) (ysOf (a ++ b)) = out at HC HCan
  have HLn := Lib.hid (refWithin_len HCan.out)
  by_cases hva : ValidP a
  · by_cases hvb : ValidP b
    · have PA := Lib.hid hva
      have PB := Lib.hid hvb
      clear hva hvb
      go_enter Try.func57, Try.ntmps57
      go_wp2_with (first
        | (go_at_call 40; (with_reducible refine (HVa.out _ (by first | exact HT.out.bw | fail)).mono ?_); rintro e w1 ⟨hr, hb⟩; obtain rfl := hr.is_yes PA.out; have c0 := (HT.out.x0.below hb).cell (i := 0) rfl; have c1 := (HT.out.x1.below hb).cell (i := 0) rfl; have Y0 := Lib.hid (HT.out.x0.below hb); have Y1 := Lib.hid (HT.out.x1.below hb); have B1 := Lib.hid (below_step HT.out.bw hb); clear hb hr)
        | (go_at_call 40; refine (HVb.out _ B1.out).mono ?_; rintro e w2 ⟨hr, hb⟩; obtain rfl := hr.is_yes PB.out; clear c0 c1; have c0 := (Y0.out.below hb).cell (i := 0) rfl; have c1 := (Y1.out.below hb).cell (i := 0) rfl; have B2 := Lib.hid (below_step B1.out hb); clear hb hr)
        | (go_at_call 52; refine (HC.out _ B2.out PA.out PB.out).mono ?_; rintro e w3 ⟨v3, rfl, ho, hln, hb⟩; obtain ⟨p3, c3, rfl⟩ := ho.shape; have B3 := Lib.hid (below_step B2.out hb); clear hb ho))
      go_ret
      refine ⟨⟨_, rfl, ?_⟩, B3.out⟩
      have := HLn.out
      constructor
      · intro h
        exact ⟨PA.out, PB.out, this.1 (by simpa using h)⟩
      · intro h
        simpa using this.2 h.2.2
    · have PA := Lib.hid hva
      have PB := Lib.hid hvb
      clear hva hvb
      go_enter Try.func57, Try.ntmps57
      go_wp2_with (first
        | (go_at_call 40; (with_reducible refine (HVa.out _ (by first | exact HT.out.bw | fail)).mono ?_); rintro e w1 ⟨hr, hb⟩; obtain rfl := hr.is_yes PA.out; have c0 := (HT.out.x0.below hb).cell (i := 0) rfl; have c1 := (HT.out.x1.below hb).cell (i := 0) rfl; have B1 := Lib.hid (below_step HT.out.bw hb); clear hb hr)
        | (go_at_call 40; refine (HVb.out _ B1.out).mono ?_; rintro e w2 ⟨hr, hb⟩; obtain rfl := hr.is_no PB.out; have B2 := Lib.hid (below_step B1.out hb); clear hb hr))
      go_ret
      exact ⟨RetB.no fun h => PB.out h.2.1, B2.out⟩
  · have PA := Lib.hid hva
    clear hva
    go_enter Try.func57, Try.ntmps57
    go_wp2_with (go_at_call 40; refine (HVa.out _ HT.out.bw).mono ?_; rintro e w1 ⟨hr, hb⟩; obtain rfl := hr.is_no PA.out; have B1 := Lib.hid (below_step HT.out.bw hb); clear hb hr)
    go_ret
    exact ⟨RetB.no fun h => PA.out h.1, B1.out⟩

theorem refMeets_len {a b out : List Rc} (h : CanonFor (fun x y => refK 2 (insideB a x y) (insideB b x y)) out) : 0 < out.length ↔ ∃ x y, insideB a x y = true ∧ insideB b x y = true := by
  constructor
  · intro h0
    cases out with
    | nil => cases h0
    | cons r l =>
      obtain ⟨h1, h2⟩ := canonical_up h.canonical r List.mem_cons_self
      have hi : insideB (r :: l) r.l r.b = true := inside_iff.2 ⟨r, List.mem_cons_self, insR_iff.2 ⟨Int.le_refl _, h1, Int.le_refl _, h2⟩⟩
      rw [h.inside] at hi
      exact ⟨r.l, r.b, by revert hi; show (insideB a r.l r.b && insideB b r.l r.b) = true → _; simp⟩
  · rintro ⟨x, y, h1, h2⟩
    have hi : insideB out x y = true := by rw [h.inside, h1, h2]; rfl
    obtain ⟨r, hr, _⟩ := inside_iff.1 hi
    exact List.length_pos_of_mem hr

set_option maxHeartbeats 2000000 in
set_option maxRecDepth 100000 in
theorem refMeets_any (va vb : Value) (a b : List Rc) (w : World) (ha : RectsAt w va a) (hb : RectsAt w vb b) :
    Calls Try.prog 58 #[.agg #[va], .agg #[vb]] w fun e w' => RetB e (ValidP a ∧ ValidP b ∧ (∃ x y, insideB a x y = true ∧ insideB b x y = true)) ∧ Below w.heap.size w w' := by
  have HT := Lib.hid (two_at w va vb)
  have HVa := Lib.hid (fun (w' : World) (h : Below w.heap.size w w') => refValid_any va a w' (ha.below h))
  have HVb := Lib.hid (fun (w' : World) (h : Below w.heap.size w w') => refValid_any vb b w' (hb.below h))
  have HC := Lib.hid (fun (w' : World) (h : Below w.heap.size w w') (pa : ValidP a) (pb : ValidP b) => refCombine_any va vb a b 2 w' (ha.below h) (hb.below h) (by have := pa.1; omega) (by have := pb.1; omega))
  obtain ⟨pa, ca, rfl⟩ := ha.shape
  obtain ⟨pb, cb, rfl⟩ := hb.shape
  clear ha hb
  generalize hna : a.length = na at *
  generalize hnb : b.length = nb at *
  clear hna hnb
  have HCan := Lib.hid (refL_for 2 a b)
  generalize refL (refK 2) a b (xsOf (a ++ b)) (ysOf (a ++ b)) = out at HC HCan
  have HLn := Lib.hid (refMeets_len HCan.out)
  by_cases hva : ValidP a
  · by_cases hvb : ValidP b
    · have PA := Lib.hid hva
      have PB := Lib.hid hvb
      clear hva hvb
      go_enter Try.func58, Try.ntmps58
      go_wp2_with (first
        | (go_at_call 40; (with_reducible refine (HVa.out _ (by first | exact HT.out.bw | fail)).mono ?_); rintro e w1 ⟨hr, hb⟩; obtain rfl := hr.is_yes PA.out; have c0 := (HT.out.x0.below hb).cell (i := 0) rfl; have c1 := (HT.out.x1.below hb).cell (i := 0) rfl; have Y0 := Lib.hid (HT.out.x0.below hb); have Y1 := Lib.hid (HT.out.x1.below hb); have B1 := Lib.hid (below_step HT.out.bw hb); clear hb hr)
        | (go_at_call 40; refine (HVb.out _ B1.out).mono ?_; rintro e w2 ⟨hr, hb⟩; obtain rfl := hr.is_yes PB.out; clear c0 c1; have c0 := (Y0.out.below hb).cell (i := 0) rfl; have c1 := (Y1.out.below hb).cell (i := 0) rfl; have B2 := Lib.hid (below_step B1.out hb); clear hb hr)
        | (go_at_call 52; refine (HC.out _ B2.out PA.out PB.out).mono ?_; rintro e w3 ⟨v3, rfl, ho, hln, hb⟩; obtain ⟨p3, c3, rfl⟩ := ho.shape; have B3 := Lib.hid (below_step B2.out hb); clear hb ho))
      go_ret
      refine ⟨⟨_, rfl, ?_⟩, B3.out⟩
      have := HLn.out
      constructor
      · intro h
        exact ⟨PA.out, PB.out, this.1 (by simpa using h)⟩
      · intro h
        simpa using this.2 h.2.2
    · have PA := Lib.hid hva
      have PB := Lib.hid hvb
      clear hva hvb
      go_enter Try.func58, Try.ntmps58
      go_wp2_with (first
        | (go_at_call 40; (with_reducible refine (HVa.out _ (by first | exact HT.out.bw | fail)).mono ?_); rintro e w1 ⟨hr, hb⟩; obtain rfl := hr.is_yes PA.out; have c0 := (HT.out.x0.below hb).cell (i := 0) rfl; have c1 := (HT.out.x1.below hb).cell (i := 0) rfl; have B1 := Lib.hid (below_step HT.out.bw hb); clear hb hr)
        | (go_at_call 40; refine (HVb.out _ B1.out).mono ?_; rintro e w2 ⟨hr, hb⟩; obtain rfl := hr.is_no PB.out; have B2 := Lib.hid (below_step B1.out hb); clear hb hr))
      go_ret
      exact ⟨RetB.no fun h => PB.out h.2.1, B2.out⟩
  · have PA := Lib.hid hva
    clear hva
    go_enter Try.func58, Try.ntmps58
    go_wp2_with (go_at_call 40; refine (HVa.out _ HT.out.bw).mono ?_; rintro e w1 ⟨hr, hb⟩; obtain rfl := hr.is_no PA.out; have B1 := Lib.hid (below_step HT.out.bw hb); clear hb hr)
    go_ret
    exact ⟨RetB.no fun h => PA.out h.1, B1.out⟩

end Go.Proofs.Ytdpnkbbphfcngaa
