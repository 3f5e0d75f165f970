/- The reference's Valid and Has. -/
import Derived.Test.YtdpnkbbphfcngabGX
import Derived.Deep.RegionHeld3
namespace Go.Proofs.Ytdpnkbbphfcngab
open Go.RowKit Go.Shelf

theorem RetB.iff {e : Ending} {P Q : Prop} (h : RetB e P) (hpq : P ↔ Q) : RetB e Q := by
  obtain ⟨b, he, hb⟩ := h
  exact ⟨b, he, hb.trans hpq⟩

theorem refL_for (how : Int) (a b : List Rc) : CanonFor (fun x y => refK how (insideB a x y) (insideB b x y)) (refL (refK how) a b (xsOf (a ++ b)) (ysOf (a ++ b))) :=
  ref_for (k := refK how) (refK_ff how) (xsOf_ok (a ++ b)).1 (ysOf_ok (a ++ b)).1 (fun r hr => (xsOf_ok (a ++ b)).2.1 r (List.mem_append.2 hr)) (fun r hr => (ysOf_ok (a ++ b)).2.1 r (List.mem_append.2 hr))

set_option maxHeartbeats 2000000 in
set_option maxRecDepth 100000 in
theorem refValid_any (v : Value) (l : List Rc) (w : World) (h : RectsAt w v l) :
    Calls Try.prog 29 #[.agg #[v]] w fun e w' => RetB e (ValidP l) ∧ Below w.heap.size w w' := by
  have HR := Lib.hid h
  obtain ⟨p, cap, hv, hm, hcp, hc⟩ := h
  have HL := Lib.hid hc
  obtain ⟨n, hn⟩ : ∃ n, n = l.length := ⟨_, rfl⟩
  rw [← hn] at hv hm
  subst hv
  have hm' : (n : Int) ≤ 9223372036854775807 := by unfold maxLen at hm; omega
  have N := Lib.hid hn
  clear hn hc hcp
  by_cases hl : n ≤ 120
  · have hl' : ¬ ((120 : Int) < (n : Int)) := by omega
    go_enter Try.func29, Try.ntmps29
    go_wp2
    go_loopw [12] (fun i wr => ∃ k : Nat, k ≤ n ∧ i = .int .i64 k ∧ allP (l.take k) = true ∧ Below w.heap.size w wr ∧ BoxAt wr w.heap.size #[.slice p n cap] 25) (fun i _ => n - (intOf i).toNat)
    case atStart => exact ⟨0, Nat.zero_le _, rfl, rfl, (Below.refl _ _).alloc (Nat.le_refl _) _, BoxAt.new ..⟩
    case round =>
      obtain ⟨k, hk, rfl, hall, hb, hbx⟩ := hrel
      have HBx := Lib.hid hbx
      have bz := hbx.lt
      by_cases hkn : k < n
      · obtain ⟨b, off, rfl, hlt, hc⟩ := HL.out k (by rw [← N.out]; exact hkn)
        obtain ⟨c0, c1, c2, c3⟩ := hc.below hb hlt
        have hkn' : (k : Int) < (n : Int) := by omega
        have n1 : b ≠ wr.heap.size := by omega
        have HB := Lib.hid hb
        have HN := Lib.hid (fun h => allP_take_no (l := l) (k := k) (by rw [← N.out]; exact hkn) h)
        have HY := Lib.hid (fun h => allP_take_yes (l := l) (k := k) (by rw [← N.out]; exact hkn) hall h)
        clear hc hb hall hbx
        generalize l[k]! = r at *
        have HPr := Lib.hid (fun (W : World) => refProper_any r W)
        by_cases hp : properR r
        · have HA := Lib.hid (HY.out hp)
          have HPP := Lib.hid hp
          clear hp
          go_wp2_with (go_at_call 41; refine Calls.mono (HPr.out _) ?_; rintro e w2 ⟨hr, hb2⟩; obtain rfl := hr.is_yes HPP.out; have B2 := Lib.hid (below_step (HB.out.alloc HB.out.size _) hb2); have X2 := Lib.hid ((HBx.out.alloc _).below hb2); clear hr hb2)
          go_roundw
          case rel => exact ⟨k + 1, by omega, by simp, HA.out, B2.out, X2.out⟩
          case measure => simp [intOf]; omega
        · have HA := Lib.hid (HN.out hp)
          have HPP := Lib.hid hp
          clear hp
          go_wp2_with (go_at_call 41; refine Calls.mono (HPr.out _) ?_; rintro e w2 ⟨hr, hb2⟩; obtain rfl := hr.is_no HPP.out; have B2 := Lib.hid (below_step (HB.out.alloc HB.out.size _) hb2); clear hr hb2)
          go_ret
          exact ⟨RetB.no fun h => (by have h2 := allP_iff.2 h.2.1; rw [HA.out] at h2; cases h2), B2.out⟩
      · obtain rfl : k = n := by omega
        have HA := Lib.hid (show allP l = true by rw [List.take_of_length_le (by rw [← N.out]; exact Nat.le_refl _)] at hall; exact hall)
        have HB := Lib.hid hb
        have HV := Lib.hid (show ∀ out : List Rc, CanonFor (insideB l) out → (out = l ↔ ValidP l) from fun out hcan => ⟨fun e => ⟨by rw [← N.out]; exact hl, allP_iff.1 HA.out, by rw [← e]; exact hcan.canonical⟩, fun hv => canon_unique hcan hv.2.2.for⟩)
        have HR2 := Lib.hid (HR.out.below hb)
        have KS := Lib.hid (fun (w' : World) (h : Below wr.heap.size wr w') => (⟨(hbx.below h).cell (i := 0) rfl, h⟩ : w'.cell? ⟨w.heap.size, 0, none⟩ = some (.slice p k cap) ∧ Below wr.heap.size wr w'))
        have HC := Lib.hid (fun (w' : World) (h : Below wr.heap.size wr w') => refCombine_any (.slice p k cap) (.slice none 0 0) l [] 1 w' (HR2.out.below h) (RectsAt.nil _) (by rw [← N.out]; omega) (by simp))
        have HCan := Lib.hid (refL_of (l := l))
        clear hall hb hbx
        generalize refL (refK 1) l [] (xsOf (l ++ [])) (ysOf (l ++ [])) = out at HC HCan
        generalize hk120 : k = kk at *
        clear hk120
        go_wp2_with fail
        refine wp_region_noPanic ?_
        go_region_held3 (fun w' => w'.cell? ⟨w.heap.size, 0, none⟩ = some (.slice p kk cap) ∧ Below wr.heap.size wr w') (exact KS.out _ (by first | assumption | exact Below.drew (by assumption) | exact Below.drew (Below.refl _ _))) (first
          | (go_at_call 32; (with_reducible refine (HC.out _ (by first | assumption | exact Below.drew (Below.refl _ _))).mono ?_); rintro e w3 ⟨v3, rfl, ho, hln, hb⟩; obtain ⟨p3, c3, rfl⟩ := ho.shape; have O3 := Lib.hid ho.rects; have kb : Below wr.heap.size wr w3 := below_step (by first | assumption | exact Below.drew (Below.refl _ _)) hb; clear hb ho hln)
          | (go_at_call 31; refine (refRects_any _ _ out l _ O3.out (HR2.out.below (by assumption))).mono ?_; rintro e w4 ⟨⟨bb, rfl, hbb⟩, hb⟩; have HBB := Lib.hid hbb; have kb : Below wr.heap.size wr w4 := below_step (by assumption) hb; clear hb hbb))
        refine NoPanic.normal ?_
        go_wp2
        go_ret
        exact ⟨⟨bb, rfl, HBB.out.trans (HV.out out HCan.out)⟩, below_step HB.out (by assumption)⟩
  · have hl' : (120 : Int) < (n : Int) := by omega
    go_enter Try.func29, Try.ntmps29
    go_wp2
    go_ret
    exact ⟨RetB.no fun h => (by have := h.1; rw [← N.out] at this; omega), (Below.refl _ _).alloc (Nat.le_refl _) _⟩

set_option maxHeartbeats 2000000 in
set_option maxRecDepth 100000 in
theorem refHas_any (v : Value) (l : List Rc) (x y : Int) (w : World) (h : RectsAt w v l) :
    Calls Try.prog 10 #[.agg #[v], .int .i64 x, .int .i64 y] w fun e w' => RetB e (ValidP l ∧ insideB l x y = true) ∧ Below w.heap.size w w' := by
  have HP := Lib.hid (fun (w' : World) (hb : Below w.heap.size w w') => refValid_any v l w' (h.below hb))
  have HS := Lib.hid (fun (w' : World) (hb : Below w.heap.size w w') => refInside_any v l x y w' (h.below hb))
  obtain ⟨p, cap, rfl⟩ := h.shape
  clear h
  generalize hn : l.length = n at *
  clear hn
  have X := Lib.hid (BoxAt.new w #[.slice p n cap] 25)
  have B := Lib.hid (show Below w.heap.size w (w.alloc (.cells #[.slice p n cap] 25)) from (Below.refl _ _).alloc (Nat.le_refl _) _)
  by_cases hV : ValidP l
  · have HV := Lib.hid hV
    clear hV
    go_enter Try.func10, Try.ntmps10
    go_wp2_with (first
      | (go_at_call 29; refine Calls.mono (HP.out _ B.out) ?_; rintro e w1 ⟨hr, hb⟩; obtain rfl := hr.is_yes HV.out; have hc0 := (X.out.below hb).cell (i := 0) rfl; have B1 := Lib.hid (below_step B.out hb); clear hb hr)
      | (go_at_call 30; refine Calls.mono (HS.out _ B1.out) ?_; rintro e w2 ⟨rfl, hb⟩; have B2 := Lib.hid (below_step B1.out hb); clear hb))
    go_ret
    exact ⟨⟨_, rfl, ⟨fun h => ⟨HV.out, h⟩, fun h => h.2⟩⟩, B2.out⟩
  · have HV := Lib.hid hV
    clear hV
    go_enter Try.func10, Try.ntmps10
    go_wp2_with (go_at_call 29; refine Calls.mono (HP.out _ B.out) ?_; rintro e w1 ⟨hr, hb⟩; obtain rfl := hr.is_no HV.out; have B1 := Lib.hid (below_step B.out hb); clear hb hr)
    go_ret
    exact ⟨RetB.no fun h => HV.out h.1, B1.out⟩

end Go.Proofs.Ytdpnkbbphfcngab
