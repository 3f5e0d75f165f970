/- The reference's combine, Without, Size, Area. -/
import Derived.Test.YtdpnkbbphfcngabGRW
import Derived.Test.YtdpnkbbphfcngabGAr
namespace Go.Proofs.Ytdpnkbbphfcngab
open Go.RowKit Go.Shelf

set_option maxHeartbeats 2000000 in
set_option maxRecDepth 100000 in
theorem refcomb_any (how : Int) (va vb : Value) (a b : List Rc) (w : World) (ha : RectsAt w va a) (hb : RectsAt w vb b) :
    Calls Try.prog 33 #[.agg #[va], .agg #[vb], .int .i64 how] w fun e w' => RetR w.heap.size w' e (CombR (refK how) a b) ∧ Below w.heap.size w w' := by
  have HVa := Lib.hid (fun (w' : World) (h : Below w.heap.size w w') => refValid_any va a w' (ha.below h))
  have HVb := Lib.hid (fun (w' : World) (h : Below w.heap.size w w') => refValid_any vb b w' (hb.below h))
  have HCh := Lib.hid (fun (w' : World) (h : Below w.heap.size w w') (pa : ValidP a) (pb : ValidP b) => refCombine_any va vb a b how w' (ha.below h) (hb.below h) (by have := pa.1; omega) (by have := pb.1; omega))
  obtain ⟨pa, ca, rfl⟩ := ha.shape
  obtain ⟨pb, cb, rfl⟩ := hb.shape
  clear ha hb
  generalize hna : a.length = na at *
  generalize hnb : b.length = nb at *
  have b3 : Below w.heap.size w (((w.alloc (.cells #[.slice pa na ca] 25)).alloc (.cells #[.slice pb nb cb] 25)).alloc (.cells #[.slice none 0 0] 25)) := (((Below.refl _ _).alloc (Nat.le_refl _) _).alloc (by simp) _).alloc (by simp; omega) _
  have x1 : BoxAt (((w.alloc (.cells #[.slice pa na ca] 25)).alloc (.cells #[.slice pb nb cb] 25)).alloc (.cells #[.slice none 0 0] 25)) w.heap.size #[.slice pa na ca] 25 := ((BoxAt.new _ _ _).alloc _).alloc _
  have x2 : BoxAt (((w.alloc (.cells #[.slice pa na ca] 25)).alloc (.cells #[.slice pb nb cb] 25)).alloc (.cells #[.slice none 0 0] 25)) (w.heap.size + 1) #[.slice pb nb cb] 25 := by
    have := (BoxAt.new (w.alloc (.cells #[.slice pa na ca] 25)) #[.slice pb nb cb] 25).alloc (.cells #[.slice none 0 0] 25)
    simpa using this
  have x3 : BoxAt (((w.alloc (.cells #[.slice pa na ca] 25)).alloc (.cells #[.slice pb nb cb] 25)).alloc (.cells #[.slice none 0 0] 25)) (w.heap.size + 1 + 1) #[.slice none 0 0] 25 := by
    have := BoxAt.new ((w.alloc (.cells #[.slice pa na ca] 25)).alloc (.cells #[.slice pb nb cb] 25)) #[.slice none 0 0] 25
    simpa using this
  have B3 := Lib.hid b3
  have X1 := Lib.hid x1
  have X2 := Lib.hid x2
  have X3 := Lib.hid x3
  clear b3 x1 x2 x3
  by_cases hva : ValidP a
  · by_cases hvb : ValidP b
    · have PA := Lib.hid hva
      have PB := Lib.hid hvb
      clear hva hvb
      go_enter Try.func33, Try.ntmps33
      go_wp2_with fail
      refine Calls.mono (HVa.out _ B3.out) ?_
      rintro e w1 ⟨hr, hb1⟩
      obtain rfl := hr.is_yes PA.out
      have B4 := Lib.hid (below_step B3.out hb1)
      have Y1 := X1.out.below hb1
      have Y2 := X2.out.below hb1
      have Y3 := X3.out.below hb1
      have c1 := Y1.cell (i := 0) rfl
      have c2 := Y2.cell (i := 0) rfl
      have c3 := Y3.cell (i := 0) rfl
      have f3 := Y3.free 0
      have Y1 := Lib.hid Y1
      have Y2 := Lib.hid Y2
      have Y3 := Lib.hid Y3
      clear hr hb1
      go_wp2_with fail
      refine Calls.mono (HVb.out _ B4.out) ?_
      rintro e w2 ⟨hr, hb2⟩
      obtain rfl := hr.is_yes PB.out
      have B5 := Lib.hid (below_step B4.out hb2)
      have Z1 := Y1.out.below hb2
      have Z2 := Y2.out.below hb2
      have Z3 := Y3.out.below hb2
      have c1' := Z1.cell (i := 0) rfl
      have c2' := Z2.cell (i := 0) rfl
      have c3' := Z3.cell (i := 0) rfl
      have f3' := Z3.free 0
      have Z3 := Lib.hid Z3
      clear hr hb2 Z1 Z2
      go_wp2_with fail
      refine Calls.mono (HCh.out _ B5.out PA.out PB.out) ?_
      rintro e w3 ⟨v3, rfl, ho, hlen, hb3⟩
      have hcan := refL_for how a b
      generalize refL (refK how) a b (xsOf (a ++ b)) (ysOf (a ++ b)) = out at *
      obtain ⟨p3, k3, rfl⟩ := ho.shape
      have B6 := Lib.hid (below_step B5.out hb3)
      have U3 := Lib.hid (Z3.out.below hb3)
      have HO := Lib.hid ho
      have HCan := Lib.hid hcan
      have HLen := Lib.hid hlen
      have HZ := Lib.hid Z3.out.lt
      clear ho hcan hlen hb3
      go_wp2_with fail
      refine Calls.mono (refBound_any _ out w2.heap.size _ HO.out.rects (ownsRow_ge HO.out) HLen.out) ?_
      rintro e w4 ⟨⟨v4, l4, e4, rfl, hr4, hv4, hL4⟩, hb4⟩
      obtain ⟨p4, k4, rfl⟩ := hr4.shape
      have B7 := Lib.hid (below_step B6.out hb4)
      have R3 := U3.out.below hb4
      have c4 := R3.cell (i := 0) rfl
      have f4 := R3.free 0
      have R3 := Lib.hid R3
      have HR4 := Lib.hid hr4
      have HV4 := Lib.hid hv4
      have HL4 := Lib.hid hL4
      clear hr4 hv4 hL4 hb4
      go_wp2
      have hz := HZ.out
      refine bodyPost_ret (ret_re rfl rfl rfl (R3.out.set 0 (.slice p4 l4.length k4))) rfl ⟨⟨_, l4, e4, rfl, HR4.out.set (fun k hk => ?_) _ _, (fun k hk => ?_), .inr ⟨PA.out, PB.out, out, HCan.out, HL4.out⟩⟩, B7.out.setCell (by show w.heap.size ≤ w.heap.size + 1 + 1; omega) _⟩
      · have := HV4.out k hk; omega
      · have := HV4.out k hk; omega
    · have PA := Lib.hid hva
      have PB := Lib.hid hvb
      clear hva hvb
      go_enter Try.func33, Try.ntmps33
      go_wp2_with fail
      refine Calls.mono (HVa.out _ B3.out) ?_
      rintro e w1 ⟨hr, hb1⟩
      obtain rfl := hr.is_yes PA.out
      have B4 := Lib.hid (below_step B3.out hb1)
      have Y1 := X1.out.below hb1
      have Y2 := X2.out.below hb1
      have Y3 := X3.out.below hb1
      have c1 := Y1.cell (i := 0) rfl
      have c2 := Y2.cell (i := 0) rfl
      have c3 := Y3.cell (i := 0) rfl
      have f3 := Y3.free 0
      have Y1 := Lib.hid Y1
      have Y2 := Lib.hid Y2
      have Y3 := Lib.hid Y3
      clear hr hb1
      go_wp2_with fail
      refine Calls.mono (HVb.out _ B4.out) ?_
      rintro e w2 ⟨hr, hb2⟩
      obtain rfl := hr.is_no PB.out
      have B5 := Lib.hid (below_step B4.out hb2)
      have Z1 := Y1.out.below hb2
      have Z2 := Y2.out.below hb2
      have Z3 := Y3.out.below hb2
      have c1' := Z1.cell (i := 0) rfl
      have c2' := Z2.cell (i := 0) rfl
      have c3' := Z3.cell (i := 0) rfl
      have f3' := Z3.free 0
      have Z3 := Lib.hid Z3
      clear hr hb2 Z1 Z2
      go_wp2
      exact bodyPost_ret (ret_re rfl rfl rfl (Z3.out.set 0 (.slice none 0 0))) rfl ⟨⟨_, [], 7, rfl, RectsAt.nil _, nil_own _, .inl ⟨fun h => PB.out h.2, rfl, rfl⟩⟩, B5.out.setCell (by show w.heap.size ≤ w.heap.size + 1 + 1; omega) _⟩
  · have PA := Lib.hid hva
    clear hva
    go_enter Try.func33, Try.ntmps33
    go_wp2_with fail
    refine Calls.mono (HVa.out _ B3.out) ?_
    rintro e w1 ⟨hr, hb1⟩
    obtain rfl := hr.is_no PA.out
    have B4 := Lib.hid (below_step B3.out hb1)
    have Y1 := X1.out.below hb1
    have Y2 := X2.out.below hb1
    have Y3 := X3.out.below hb1
    have c1 := Y1.cell (i := 0) rfl
    have c2 := Y2.cell (i := 0) rfl
    have c3 := Y3.cell (i := 0) rfl
    have f3 := Y3.free 0
    have Y1 := Lib.hid Y1
    have Y2 := Lib.hid Y2
    have Y3 := Lib.hid Y3
    clear hr hb1
    go_wp2
    exact bodyPost_ret (ret_re rfl rfl rfl (Y3.out.set 0 (.slice none 0 0))) rfl ⟨⟨_, [], 7, rfl, RectsAt.nil _, nil_own _, .inl ⟨fun h => PA.out h.1, rfl, rfl⟩⟩, B4.out.setCell (by show w.heap.size ≤ w.heap.size + 1 + 1; omega) _⟩

set_option maxHeartbeats 2000000 in
set_option maxRecDepth 100000 in
theorem refWithout_any (va vb : Value) (a b : List Rc) (w : World) (ha : RectsAt w va a) (hb : RectsAt w vb b) :
    Calls Try.prog 15 #[.agg #[va], .agg #[vb]] w fun e w' => RetR w.heap.size w' e (CombR (fun a b => a && !b) a b) ∧ Below w.heap.size w w' := by
  have HK : refK 3 = (fun a b => a && !b) := by funext x y; cases x <;> cases y <;> rfl
  have HC := Lib.hid (fun (w' : World) (h : Below w.heap.size w w') => refcomb_any 3 va vb a b w' (ha.below h) (hb.below h))
  rw [HK] at HC
  clear HK
  obtain ⟨pa, ca, rfl⟩ := ha.shape
  obtain ⟨pb, cb, rfl⟩ := hb.shape
  clear ha hb
  generalize hna : a.length = na at *
  generalize hnb : b.length = nb at *
  have b3 : Below w.heap.size w (((w.alloc (.cells #[.slice pa na ca] 25)).alloc (.cells #[.slice pb nb cb] 25)).alloc (.cells #[.slice none 0 0] 25)) := (((Below.refl _ _).alloc (Nat.le_refl _) _).alloc (by simp) _).alloc (by simp; omega) _
  have x3 : BoxAt (((w.alloc (.cells #[.slice pa na ca] 25)).alloc (.cells #[.slice pb nb cb] 25)).alloc (.cells #[.slice none 0 0] 25)) (w.heap.size + 1 + 1) #[.slice none 0 0] 25 := by
    have := BoxAt.new ((w.alloc (.cells #[.slice pa na ca] 25)).alloc (.cells #[.slice pb nb cb] 25)) #[.slice none 0 0] 25
    simpa using this
  have B3 := Lib.hid b3
  have X3 := Lib.hid x3
  clear b3 x3
  go_enter Try.func15, Try.ntmps15
  go_wp2_with fail
  refine Calls.mono (HC.out _ B3.out) ?_
  rintro e w4 ⟨⟨v4, l4, e4, rfl, hr4, hv4, hL4⟩, hb4⟩
  obtain ⟨p4, k4, rfl⟩ := hr4.shape
  have B7 := Lib.hid (below_step B3.out hb4)
  have R3 := X3.out.below hb4
  have c4 := R3.cell (i := 0) rfl
  have f4 := R3.free 0
  have R3 := Lib.hid R3
  have HR4 := Lib.hid hr4
  have HV4 := Lib.hid hv4
  have HL4 := Lib.hid hL4
  clear hr4 hv4 hL4 hb4
  go_wp2
  have hz := X3.out.lt
  refine bodyPost_ret (ret_re rfl rfl rfl (R3.out.set 0 (.slice p4 l4.length k4))) rfl ⟨⟨_, l4, e4, rfl, HR4.out.set (fun k hk => ?_) _ _, (fun k hk => ?_), HL4.out⟩, B7.out.setCell (by show w.heap.size ≤ w.heap.size + 1 + 1; omega) _⟩
  · have := HV4.out k hk; omega
  · have := HV4.out k hk; omega

set_option maxHeartbeats 2000000 in
set_option maxRecDepth 100000 in
theorem refSize_any (v : Value) (l : List Rc) (w : World) (h : RectsAt w v l) (hp : ∀ r ∈ l, properR r) (h120 : l.length ≤ 120) :
    Calls Try.prog 39 #[v] w fun e w' => e = .returned (.int .i64 (areaL l)) ∧ Below w.heap.size w w' := by
  obtain ⟨p, cap, rfl, hm, hcp, h⟩ := h
  have HL := Lib.hid h
  obtain ⟨n, hn⟩ : ∃ n, n = l.length := ⟨_, rfl⟩
  rw [← hn] at h120 ⊢
  have hm' : (n : Int) ≤ 120 := by omega
  have N := Lib.hid hn
  have HPR := Lib.hid hp
  clear h hm hcp hn hp
  go_enter Try.func39, Try.ntmps39
  go_wp2_with fail
  go_loopw [3, 8] (fun s i wr => ∃ k : Nat, k ≤ n ∧ i = .int .i64 k ∧ s = .int .i64 (areaL (l.take k)) ∧ Below w.heap.size w wr) (fun _ i _ => n - (intOf i).toNat)
  case atStart => exact ⟨0, Nat.zero_le _, rfl, rfl, Below.refl _ _⟩
  case round =>
    obtain ⟨k, hk, rfl, rfl, hb⟩ := hrel
    by_cases hkn : k < n
    · obtain ⟨b, off, rfl, hlt, hc⟩ := HL.out k (by rw [← N.out]; exact hkn)
      obtain ⟨c0, c1, c2, c3⟩ := hc.below hb hlt
      have hkn' : (k : Int) < (n : Int) := by omega
      have hS := areaL_take (l := l) (k := k) (by rw [← N.out]; exact hkn)
      have hq := HPR.out l[k]! (by rw [getElem!_pos l k (by rw [← N.out]; exact hkn)]; exact List.getElem_mem _)
      have hA := areaL_le (l := l.take k) fun q hq => HPR.out q (List.mem_of_mem_take hq)
      have hR := areaR_le hq
      have hlen : (l.take k).length ≤ 120 := by rw [List.length_take]; omega
      have HB2 := Lib.hid hb
      clear hc hb
      generalize l[k]! = r at *
      generalize areaL (l.take k) = s at *
      have w1 : wrap64 (r.r - r.l) = r.r - r.l := by obtain ⟨q0, q1, q2, q3, q4, q5⟩ := hq; exact wrap_in (by omega) (by omega)
      have w2 : wrap64 (r.h - r.b) = r.h - r.b := by obtain ⟨q0, q1, q2, q3, q4, q5⟩ := hq; exact wrap_in (by omega) (by omega)
      have hSum := Lib.hid hS
      unfold areaR at hR
      have w3 : wrap64 ((r.r - r.l) * (r.h - r.b)) = (r.r - r.l) * (r.h - r.b) := wrap_in (by omega) (by omega)
      have w4 : wrap64 (s + (r.r - r.l) * (r.h - r.b)) = s + (r.r - r.l) * (r.h - r.b) := wrap_in (by omega) (by omega)
      clear hS hq hR hA hlen
      go_wp2
      go_roundw
      case rel => exact ⟨k + 1, by omega, by simp, by rw [hSum.out, w4]; rfl, HB2.out.alloc HB2.out.size _⟩
      case measure => simp [intOf]; omega
    · have HB2 := Lib.hid hb
      have C1 := Lib.hid (show areaL (l.take k) = areaL l by rw [List.take_of_length_le (by rw [← N.out]; omega)])
      obtain rfl : k = n := by omega
      clear hb
      go_wp2
      go_ret
      exact ⟨congrArg (fun z => Ending.returned (.int .i64 z)) C1.out, HB2.out⟩

set_option maxHeartbeats 2000000 in
set_option maxRecDepth 100000 in
theorem refArea_any (v : Value) (l : List Rc) (w : World) (h : RectsAt w v l) :
    Calls Try.prog 19 #[.agg #[v]] w fun e w' => ∃ z, e = .returned (.int .i64 z) ∧ AreaP l z ∧ Below w.heap.size w w' := by
  have HP := Lib.hid (fun (w' : World) (hb : Below w.heap.size w w') => refValid_any v l w' (h.below hb))
  have HS := Lib.hid (fun (w' : World) (hb : Below w.heap.size w w') (hV : ValidP l) => refSize_any v l w' (h.below hb) hV.2.1 hV.1)
  obtain ⟨p, cap, rfl⟩ := h.shape
  clear h
  generalize hn : l.length = n at *
  clear hn
  have X := Lib.hid (BoxAt.new w #[.slice p n cap] 25)
  have B := Lib.hid (show Below w.heap.size w (w.alloc (.cells #[.slice p n cap] 25)) from (Below.refl _ _).alloc (Nat.le_refl _) _)
  by_cases hV : ValidP l
  · have HV := Lib.hid hV
    clear hV
    go_enter Try.func19, Try.ntmps19
    go_wp2_with (first
      | (go_at_call 29; refine Calls.mono (HP.out _ B.out) ?_; rintro e w1 ⟨hr, hb⟩; obtain rfl := hr.is_yes HV.out; have hc0 := (X.out.below hb).cell (i := 0) rfl; have B1 := Lib.hid (below_step B.out hb); clear hb hr)
      | (go_at_call 39; refine Calls.mono (HS.out _ B1.out HV.out) ?_; rintro e w2 ⟨rfl, hb⟩; have B2 := Lib.hid (below_step B1.out hb); clear hb))
    go_ret
    exact ⟨_, rfl, ⟨fun _ => rfl, fun h => absurd HV.out h⟩, B2.out⟩
  · have HV := Lib.hid hV
    clear hV
    go_enter Try.func19, Try.ntmps19
    go_wp2_with (go_at_call 29; refine Calls.mono (HP.out _ B.out) ?_; rintro e w1 ⟨hr, hb⟩; obtain rfl := hr.is_no HV.out; have B1 := Lib.hid (below_step B.out hb); clear hb hr)
    go_ret
    exact ⟨0, rfl, ⟨fun h => absurd h HV.out, fun _ => rfl⟩, B1.out⟩

end Go.Proofs.Ytdpnkbbphfcngab
