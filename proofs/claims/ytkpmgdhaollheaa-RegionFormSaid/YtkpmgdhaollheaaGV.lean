/- region.Area, region.Has, the law's inside, the reference's Rects. -/
import Derived.Test.YtkpmgdhaollheaaGU
import Derived.Test.YtkpmgdhaollheaaGO
import Derived.Test.YtkpmgdhaollheaaGAr
namespace Go.Proofs.Ytkpmgdhaollheaa
open Go.RowKit Go.Shelf

set_option maxHeartbeats 4000000 in
set_option maxRecDepth 100000 in
theorem area_any (v : Value) (l : List Rc) (w : World) (h : RectsAt w v l) :
    Calls Try.prog 20 #[.agg #[v]] w fun e w' => ∃ z, e = .returned (.int .i64 z) ∧ AreaP l z ∧ Below w.heap.size w w' := by
  have HP := Lib.hid (fun (w' : World) (hb : Below w.heap.size w w') => valid_any v l w' (h.below hb))
  obtain ⟨p, cap, rfl, hm, hcp, h⟩ := h
  have hm' : (l.length : Int) ≤ 9223372036854775807 := by unfold maxLen at hm; omega
  have HL := Lib.hid h
  obtain ⟨n, hn⟩ : ∃ n, n = l.length := ⟨_, rfl⟩
  rw [← hn] at hm' HP ⊢
  have N := Lib.hid hn
  clear h hm hcp hn
  by_cases hV : ValidP l
  · have hpr := hV.2.1
    have hn120 : n ≤ 120 := by rw [N.out]; exact hV.1
    have HV := Lib.hid hV
    clear hV
    go_enter Try.func20, Try.ntmps20
    go_wp2_with (go_at_call 24; refine Calls.mono (HP.out _ ((Below.refl _ _).alloc (Nat.le_refl _) _)) ?_; rintro e w1 ⟨hr, hb⟩; obtain rfl := hr.is_yes HV.out; have hbx := (BoxAt.new w #[.slice p n cap] 27).below hb; have hc0 := hbx.cell (i := 0) rfl; have hsz := hbx.lt; have HB := Lib.hid (below_new hb); clear hb hbx hr)
    go_loopw [3, 12] (fun s i wr => ∃ k : Nat, k ≤ n ∧ i = .int .i64 k ∧ s = .int .i64 (areaL (l.take k)) ∧ Below w.heap.size w wr) (fun _ i _ => n - (intOf i).toNat)
    case atStart => exact ⟨0, Nat.zero_le _, rfl, rfl, HB.out⟩
    case round =>
      obtain ⟨k, hk, rfl, rfl, hb⟩ := hrel
      by_cases hkn : k < n
      · obtain ⟨b, off, rfl, hlt, hc⟩ := HL.out k (by rw [← N.out]; exact hkn)
        obtain ⟨c0, c1, c2, c3⟩ := hc.below hb hlt
        have hkn' : (k : Int) < (n : Int) := by omega
        have hS := areaL_take (l := l) (k := k) (by rw [← N.out]; exact hkn)
        have hq := hpr l[k]! (by rw [getElem!_pos l k (by rw [← N.out]; exact hkn)]; exact List.getElem_mem _)
        have hA := areaL_le (l := l.take k) fun q hq => hpr q (List.mem_of_mem_take hq)
        have hR := areaR_le hq
        have hlen : (l.take k).length ≤ 120 := by rw [List.length_take]; omega
        have HB2 := Lib.hid hb
        clear hc hb
        generalize l[k]! = r at *
        generalize areaL (l.take k) = s at *
        have w1 : wrap64 (r.r - r.l) = r.r - r.l := by obtain ⟨q0, q1, q2, q3, q4, q5⟩ := hq; exact wrap_in (by omega) (by omega)
        have w2 : wrap64 (r.h - r.b) = r.h - r.b := by obtain ⟨q0, q1, q2, q3, q4, q5⟩ := hq; exact wrap_in (by omega) (by omega)
        have hSum := Lib.hid hS
        unfold areaR at hR
        have w3 : wrap64 ((r.r - r.l) * (r.h - r.b)) = (r.r - r.l) * (r.h - r.b) := wrap_in (by omega) (by omega)
        have w4 : wrap64 (s + (r.r - r.l) * (r.h - r.b)) = s + (r.r - r.l) * (r.h - r.b) := wrap_in (by omega) (by omega)
        clear hS hq hR hA hlen
        go_wp2
        go_roundw
        case rel => exact ⟨k + 1, by omega, by simp, by rw [hSum.out, w4]; rfl, HB2.out.alloc HB2.out.size _⟩
        case measure => simp [intOf]; omega
      · have HB2 := Lib.hid hb
        have C1 := Lib.hid (show areaL (l.take k) = areaL l by rw [List.take_of_length_le (by rw [← N.out]; omega)])
        obtain rfl : k = n := by omega
        clear hb
        go_wp2
        go_ret
        exact ⟨_, rfl, ⟨fun _ => C1.out, fun h => absurd HV.out h⟩, HB2.out⟩
  · have HV := Lib.hid hV
    clear hV
    go_enter Try.func20, Try.ntmps20
    go_wp2_with (go_at_call 24; refine Calls.mono (HP.out _ ((Below.refl _ _).alloc (Nat.le_refl _) _)) ?_; rintro e w1 ⟨hr, hb⟩; obtain rfl := hr.is_no HV.out; have HB := Lib.hid (below_new hb); clear hb hr)
    go_ret
    exact ⟨0, rfl, ⟨fun h => absurd h HV.out, fun _ => rfl⟩, HB.out⟩
end Go.Proofs.Ytkpmgdhaollheaa
