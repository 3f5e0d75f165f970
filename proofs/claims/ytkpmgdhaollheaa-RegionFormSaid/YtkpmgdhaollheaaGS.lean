/- The reference: proper, Bound, Of. -/
import Derived.Test.YtkpmgdhaollheaaGR
namespace Go.Proofs.Ytkpmgdhaollheaa
open Go.RowKit Go.Shelf

set_option maxHeartbeats 2000000 in
set_option maxRecDepth 100000 in
theorem refProper_any (r : Rc) (w : World) : Calls Try.prog 60 #[.agg #[.int .i64 r.l, .int .i64 r.b, .int .i64 r.r, .int .i64 r.h]] w fun e w' => RetB e (properR r) ∧ Below w.heap.size w w' := by
  by_cases h0 : 0 ≤ r.l
  · by_cases h1 : r.l < r.r
    · by_cases h2 : r.r ≤ 16384
      · by_cases h3 : 0 ≤ r.b
        · by_cases h4 : r.b < r.h
          · by_cases h5 : r.h ≤ 16384
            · go_enter Try.func60, Try.ntmps60
              go_wp2
              go_ret
              exact ⟨RetB.yes ⟨h0, h1, h2, h3, h4, h5⟩, (Below.refl _ _).alloc (Nat.le_refl _) _⟩
            · go_enter Try.func60, Try.ntmps60
              go_wp2
              go_ret
              exact ⟨RetB.no fun h => by have := h.2.2.2.2.2; omega, (Below.refl _ _).alloc (Nat.le_refl _) _⟩
          · go_enter Try.func60, Try.ntmps60
            go_wp2
            go_ret
            exact ⟨RetB.no fun h => by have := h.2.2.2.2.1; omega, (Below.refl _ _).alloc (Nat.le_refl _) _⟩
        · go_enter Try.func60, Try.ntmps60
          go_wp2
          go_ret
          exact ⟨RetB.no fun h => by have := h.2.2.2.1; omega, (Below.refl _ _).alloc (Nat.le_refl _) _⟩
      · go_enter Try.func60, Try.ntmps60
        go_wp2
        go_ret
        exact ⟨RetB.no fun h => by have := h.2.2.1; omega, (Below.refl _ _).alloc (Nat.le_refl _) _⟩
    · go_enter Try.func60, Try.ntmps60
      go_wp2
      go_ret
      exact ⟨RetB.no fun h => by have := h.2.1; omega, (Below.refl _ _).alloc (Nat.le_refl _) _⟩
  · go_enter Try.func60, Try.ntmps60
    go_wp2
    go_ret
    exact ⟨RetB.no fun h => by have := h.1; omega, (Below.refl _ _).alloc (Nat.le_refl _) _⟩

set_option maxHeartbeats 1000000 in
set_option maxRecDepth 100000 in
theorem refBound_any (v : Value) (out : List Rc) (B : Nat) (w : World) (h : RectsAt w v out) (hv : ∀ k, v.ownBlock = some k → B ≤ k) (hl : out.length ≤ 100000000) :
    Calls Try.prog 63 #[v] w fun e w' => RetR B w' e (LimR out) ∧ Below w.heap.size w w' := by
  have H := Lib.hid h
  obtain ⟨p, cap, rfl⟩ := h.shape
  obtain ⟨n, hn⟩ : ∃ n, n = out.length := ⟨_, rfl⟩
  rw [← hn] at H hv ⊢
  have HVB := Lib.hid hv
  have N := Lib.hid hn
  have hn' : (n : Int) ≤ 100000000 := by omega
  clear h hn hv
  by_cases hl : n ≤ 120
  · have hl' : ¬ ((120 : Int) < (n : Int)) := by omega
    go_enter Try.func63, Try.ntmps63
    go_wp2
    refine bodyPost_ret (ret_re rfl rfl rfl (BoxAt.new w _ _)) rfl ⟨⟨.slice p n cap, out, 0, rfl, ?_, HVB.out, .inr ⟨by rw [← N.out]; exact hl, rfl, rfl⟩⟩, ?_⟩
    · exact H.out.below ((Below.refl _ _).alloc (Nat.le_refl _) _)
    · exact (Below.refl _ _).alloc (Nat.le_refl _) _
  · have hl' : (120 : Int) < (n : Int) := by omega
    go_enter Try.func63, Try.ntmps63
    go_wp2
    refine bodyPost_ret (ret_re rfl rfl rfl (BoxAt.new w _ _)) rfl ⟨⟨_, [], 1, rfl, RectsAt.nil _, nil_own _, .inl ⟨by rw [← N.out]; omega, rfl, rfl⟩⟩, ?_⟩
    exact (Below.refl _ _).alloc (Nat.le_refl _) _


theorem allP_take_no {l : List Rc} {k : Nat} (hk : k < l.length) (h : ¬ properR l[k]!) : allP l = false := by
  rw [allP, List.all_eq_false]
  exact ⟨l[k]!, by rw [getElem!_pos l k hk]; exact List.getElem_mem _, by simpa using h⟩
theorem allP_take_yes {l : List Rc} {k : Nat} (hk : k < l.length) (ha : allP (l.take k) = true) (h : properR l[k]!) : allP (l.take (k + 1)) = true := by
  rw [List.take_succ_eq_append_getElem hk, allP, List.all_append, ← getElem!_pos l k hk]
  simp only [allP] at ha
  rw [ha, Bool.true_and, List.all_cons, List.all_nil, Bool.and_true, decide_eq_true h]

theorem refL_of {l : List Rc} : CanonFor (insideB l) (refL (refK 1) l [] (xsOf (l ++ [])) (ysOf (l ++ []))) := by
  have h := ref_for (k := refK 1) (refK_ff 1) (a := l) (b := []) (xsOf_ok (l ++ [])).1 (ysOf_ok (l ++ [])).1 (fun r hr => (xsOf_ok (l ++ [])).2.1 r (by simpa using hr)) (fun r hr => (ysOf_ok (l ++ [])).2.1 r (by simpa using hr))
  exact h.congr fun x y => by
    show refK 1 (insideB l x y) (insideB [] x y) = insideB l x y
    simp [refK, insideB]

set_option maxHeartbeats 2000000 in
set_option maxRecDepth 100000 in
theorem refOf_any (v : Value) (l : List Rc) (w : World) (h : RectsAt w v l) :
    Calls Try.prog 31 #[v] w fun e w' => RetR w.heap.size w' e (OfR l) ∧ Below w.heap.size w w' := by
  have HR := Lib.hid h
  obtain ⟨p, cap, hv, hm, hcp, hc⟩ := h
  have HL := Lib.hid hc
  obtain ⟨n, hn⟩ : ∃ n, n = l.length := ⟨_, rfl⟩
  rw [← hn] at hv hm
  subst hv
  have hm' : (n : Int) ≤ 9223372036854775807 := by unfold maxLen at hm; omega
  have N := Lib.hid hn
  clear hn hc hcp
  by_cases hl : n ≤ 120
  · have hl' : ¬ ((120 : Int) < (n : Int)) := by omega
    have HC := Lib.hid (fun (w' : World) (hb : Below w.heap.size w w') => refCombine_any (.slice p n cap) (.slice none 0 0) l [] 1 w' (HR.out.below hb) (RectsAt.nil _) (by rw [← N.out]; omega) (by simp))
    go_enter Try.func31, Try.ntmps31
    go_wp2
    go_loopw [12] (fun i wr => ∃ k : Nat, k ≤ n ∧ i = .int .i64 k ∧ allP (l.take k) = true ∧ Below w.heap.size w wr ∧ BoxAt wr w.heap.size #[.slice none 0 0] 27) (fun i _ => n - (intOf i).toNat)
    case atStart => exact ⟨0, Nat.zero_le _, rfl, rfl, (Below.refl _ _).alloc (Nat.le_refl _) _, BoxAt.new ..⟩
    case round =>
      obtain ⟨k, hk, rfl, hall, hb, hbx⟩ := hrel
      have HBx := Lib.hid hbx
      have bz := hbx.lt
      by_cases hkn : k < n
      · obtain ⟨b, off, rfl, hlt, hc⟩ := HL.out k (by rw [← N.out]; exact hkn)
        obtain ⟨c0, c1, c2, c3⟩ := hc.below hb hlt
        have hkn' : (k : Int) < (n : Int) := by omega
        have n1 : b ≠ wr.heap.size := by omega
        have HB := Lib.hid hb
        have HN := Lib.hid (fun h => allP_take_no (l := l) (k := k) (by rw [← N.out]; exact hkn) h)
        have HY := Lib.hid (fun h => allP_take_yes (l := l) (k := k) (by rw [← N.out]; exact hkn) hall h)
        clear hc hb hall hbx
        generalize l[k]! = r at *
        have HPr := Lib.hid (fun (W : World) => refProper_any r W)
        by_cases hp : properR r
        · have HA := Lib.hid (HY.out hp)
          have HPP := Lib.hid hp
          clear hp
          go_wp2_with (go_at_call 60; refine Calls.mono (HPr.out _) ?_; rintro e w2 ⟨hr, hb2⟩; obtain rfl := hr.is_yes HPP.out; have B2 := Lib.hid (below_step (HB.out.alloc HB.out.size _) hb2); have X2 := Lib.hid ((HBx.out.alloc _).below hb2); clear hr hb2)
          go_roundw
          case rel => exact ⟨k + 1, by omega, by simp, HA.out, B2.out, X2.out⟩
          case measure => simp [intOf]; omega
        · have HA := Lib.hid (HN.out hp)
          have HPP := Lib.hid hp
          clear hp
          go_wp2_with (go_at_call 60; refine Calls.mono (HPr.out _) ?_; rintro e w2 ⟨hr, hb2⟩; obtain rfl := hr.is_no HPP.out; have B2 := Lib.hid (below_step (HB.out.alloc HB.out.size _) hb2); have x2 := (HBx.out.alloc (.cells #[.int .i64 r.l, .int .i64 r.b, .int .i64 r.r, .int .i64 r.h] 39)).below hb2; have xc := x2.cell (i := 0) rfl; have xf := x2.free 0; have X2 := Lib.hid x2; clear hr hb2 x2)
          exact bodyPost_ret (ret_re rfl rfl rfl (X2.out.set 0 (.slice none 0 0))) rfl ⟨⟨_, [], 2, rfl, RectsAt.nil _, nil_own _, .inr (.inl ⟨by rw [← N.out]; exact hl, HA.out, rfl, rfl⟩)⟩, B2.out.setCell (Nat.le_refl _) _⟩
      · obtain rfl : k = n := by omega
        have HA := Lib.hid (show allP l = true by rw [List.take_of_length_le (by rw [← N.out]; exact Nat.le_refl _)] at hall; exact hall)
        have HB := Lib.hid hb
        clear hall hb hbx
        go_wp2_with fail
        refine Calls.mono (HC.out _ HB.out) ?_
        rintro e w3 ⟨v3, rfl, ho, hln3, hb3⟩
        have HLn := Lib.hid hln3
        obtain ⟨p3, k3, rfl⟩ := ho.shape
        have B6 := Lib.hid (below_step HB.out hb3)
        have U3 := Lib.hid (HBx.out.below hb3)
        have HO := Lib.hid ho
        clear ho hb3 hln3
        generalize hout : refL (refK 1) l [] (xsOf (l ++ [])) (ysOf (l ++ [])) = out at HO HLn
        have HCan := Lib.hid (show CanonFor (insideB l) out by rw [← hout]; exact refL_of)
        clear hout
        go_wp2_with fail
        refine Calls.mono (refBound_any _ out wr.heap.size _ HO.out.rects (ownsRow_ge HO.out) HLn.out) ?_
        rintro e w4 ⟨⟨v4, l4, e4, rfl, hr4, hv4, hL4⟩, hb4⟩
        obtain ⟨p4, k4, rfl⟩ := hr4.shape
        have B7 := Lib.hid (below_step B6.out hb4)
        have R3 := U3.out.below hb4
        have c4 := R3.cell (i := 0) rfl
        have f4 := R3.free 0
        have R3 := Lib.hid R3
        have HR4 := Lib.hid hr4
        have HV4 := Lib.hid hv4
        have HL4 := Lib.hid hL4
        clear hr4 hv4 hL4 hb4
        go_wp2
        refine bodyPost_ret (ret_re rfl rfl rfl (R3.out.set 0 (.slice p4 l4.length k4))) rfl ⟨⟨_, l4, e4, rfl, HR4.out.set (fun k hk => ?_) _ _, (fun k hk => ?_), .inr (.inr ⟨by rw [← N.out]; exact hl, HA.out, out, HCan.out, HL4.out⟩)⟩, B7.out.setCell (Nat.le_refl _) _⟩
        · have := HV4.out k hk; omega
        · have := HV4.out k hk; omega
  · have hl' : (120 : Int) < (n : Int) := by omega
    go_enter Try.func31, Try.ntmps31
    go_wp2
    exact bodyPost_ret (ret_re rfl rfl rfl (BoxAt.new w _ _)) rfl ⟨⟨_, [], 1, rfl, RectsAt.nil _, nil_own _, .inl ⟨by rw [← N.out]; omega, rfl, rfl⟩⟩, (Below.refl _ _).alloc (Nat.le_refl _) _⟩
end Go.Proofs.Ytkpmgdhaollheaa
