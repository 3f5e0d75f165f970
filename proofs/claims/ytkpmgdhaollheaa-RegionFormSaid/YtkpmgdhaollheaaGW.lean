/- The law's inside, region.Has, the reference's Rects. -/
import Derived.Test.YtkpmgdhaollheaaGV
namespace Go.Proofs.Ytkpmgdhaollheaa
open Go.RowKit Go.Shelf

set_option maxHeartbeats 2000000 in
set_option maxRecDepth 100000 in
theorem lawInside_any (v : Value) (l : List Rc) (x y : Int) (w : World) (h : RectsAt w v l) :
    Calls Try.prog 18 #[.agg #[v], .int .i64 x, .int .i64 y] w fun e w' => e = .returned (.bool (insideB l x y)) ∧ Below w.heap.size w w' := by
  obtain ⟨p, cap, rfl, hm, hcp, h⟩ := h
  have hm' : (l.length : Int) ≤ 9223372036854775807 := by unfold maxLen at hm; omega
  have HL := Lib.hid h
  obtain ⟨n, hn⟩ : ∃ n, n = l.length := ⟨_, rfl⟩
  rw [← hn] at hm' ⊢
  have N := Lib.hid hn
  clear h hm hcp hn
  go_enter Try.func18, Try.ntmps18
  go_wp2
  go_loopw [12] (fun i wr => ∃ k : Nat, k ≤ n ∧ i = .int .i64 k ∧ insideB (l.take k) x y = false ∧ Below w.heap.size w wr) (fun i _ => n - (intOf i).toNat)
  case atStart => exact ⟨0, Nat.zero_le _, rfl, rfl, (Below.refl _ _).alloc (Nat.le_refl _) _⟩
  case round =>
    obtain ⟨k, hk, rfl, hall, hb⟩ := hrel
    by_cases hkn : k < n
    · obtain ⟨b, off, rfl, hlt, hc⟩ := HL.out k (by rw [← N.out]; exact hkn)
      obtain ⟨c0, c1, c2, c3⟩ := hc.below hb hlt
      have hkn' : (k : Int) < (n : Int) := by omega
      have HN := Lib.hid (fun h2 => inside_take_no (l := l) (k := k) (x := x) (y := y) (by rw [← N.out]; exact hkn) hall h2)
      have HY := Lib.hid (fun h2 => inside_yes (l := l) (k := k) (x := x) (y := y) (by rw [← N.out]; exact hkn) h2)
      rw [insR_eq] at HN HY
      have HB := Lib.hid hb
      clear hc hb hall
      generalize l[k]! = r at *
      by_cases h1 : r.l ≤ x
      · by_cases h2 : x < r.r
        · by_cases h3 : r.b ≤ y
          · by_cases h4 : y < r.h
            · have HR := Lib.hid (HY.out (decide_eq_true ⟨h1, h2, h3, h4⟩))
              go_wp2
              go_ret
              exact ⟨ret_bool HR.out.symm, HB.out.alloc HB.out.size _⟩
            · have HR := Lib.hid (HN.out (decide_eq_false fun h => h4 h.2.2.2))
              go_wp2
              go_roundw
              case rel => exact ⟨k + 1, by omega, by simp, HR.out, HB.out.alloc HB.out.size _⟩
              case measure => simp [intOf]; omega
          · have HR := Lib.hid (HN.out (decide_eq_false fun h => h3 h.2.2.1))
            go_wp2
            go_roundw
            case rel => exact ⟨k + 1, by omega, by simp, HR.out, HB.out.alloc HB.out.size _⟩
            case measure => simp [intOf]; omega
        · have HR := Lib.hid (HN.out (decide_eq_false fun h => h2 h.2.1))
          go_wp2
          go_roundw
          case rel => exact ⟨k + 1, by omega, by simp, HR.out, HB.out.alloc HB.out.size _⟩
          case measure => simp [intOf]; omega
      · have HR := Lib.hid (HN.out (decide_eq_false fun h => h1 h.1))
        go_wp2
        go_roundw
        case rel => exact ⟨k + 1, by omega, by simp, HR.out, HB.out.alloc HB.out.size _⟩
        case measure => simp [intOf]; omega
    · have HB := Lib.hid hb
      have C1 := Lib.hid (show insideB l x y = false by rw [List.take_of_length_le (by rw [← N.out]; omega)] at hall; exact hall)
      obtain rfl : k = n := by omega
      clear hall hb
      go_wp2
      go_ret
      exact ⟨ret_bool C1.out.symm, HB.out⟩

set_option maxHeartbeats 2000000 in
set_option maxRecDepth 100000 in
theorem has_any (v : Value) (l : List Rc) (x y : Int) (w : World) (h : RectsAt w v l) :
    Calls Try.prog 19 #[.agg #[v], .int .i64 x, .int .i64 y] w fun e w' => RetB e (ValidP l ∧ insideB l x y = true) ∧ Below w.heap.size w w' := by
  have HP := Lib.hid (fun (w' : World) (hb : Below w.heap.size w w') => valid_any v l w' (h.below hb))
  obtain ⟨p, cap, rfl, hm, hcp, h⟩ := h
  have hm' : (l.length : Int) ≤ 9223372036854775807 := by unfold maxLen at hm; omega
  have HL := Lib.hid h
  obtain ⟨n, hn⟩ : ∃ n, n = l.length := ⟨_, rfl⟩
  rw [← hn] at hm' HP ⊢
  have N := Lib.hid hn
  clear h hm hcp hn
  by_cases hV : ValidP l
  · have HV := Lib.hid hV
    clear hV
    go_enter Try.func19, Try.ntmps19
    go_wp2_with (go_at_call 24; refine Calls.mono (HP.out _ ((Below.refl _ _).alloc (Nat.le_refl _) _)) ?_; rintro e w1 ⟨hr, hb⟩; obtain rfl := hr.is_yes HV.out; have hbx := (BoxAt.new w #[.slice p n cap] 27).below hb; have hc0 := hbx.cell (i := 0) rfl; have hsz := hbx.lt; have HB := Lib.hid (below_new hb); clear hb hbx hr)
    go_loopw [15] (fun i wr => ∃ k : Nat, k ≤ n ∧ i = .int .i64 k ∧ insideB (l.take k) x y = false ∧ Below w.heap.size w wr) (fun i _ => n - (intOf i).toNat)
    case atStart => exact ⟨0, Nat.zero_le _, rfl, rfl, HB.out⟩
    clear HB
    case round =>
      obtain ⟨k, hk, rfl, hall, hb⟩ := hrel
      by_cases hkn : k < n
      · obtain ⟨b, off, rfl, hlt, hc⟩ := HL.out k (by rw [← N.out]; exact hkn)
        obtain ⟨c0, c1, c2, c3⟩ := hc.below hb hlt
        have hkn' : (k : Int) < (n : Int) := by omega
        have HN := Lib.hid (fun h2 => inside_take_no (l := l) (k := k) (x := x) (y := y) (by rw [← N.out]; exact hkn) hall h2)
        have HY := Lib.hid (fun h2 => inside_yes (l := l) (k := k) (x := x) (y := y) (by rw [← N.out]; exact hkn) h2)
        rw [insR_eq] at HN HY
        have HB := Lib.hid hb
        clear hc hb hall
        generalize l[k]! = r at *
        by_cases h1 : r.l ≤ x
        · by_cases h2 : x < r.r
          · by_cases h3 : r.b ≤ y
            · by_cases h4 : y < r.h
              · have HR := Lib.hid (HY.out (decide_eq_true ⟨h1, h2, h3, h4⟩))
                go_wp2
                go_ret
                exact ⟨RetB.yes ⟨HV.out, HR.out⟩, HB.out.alloc HB.out.size _⟩
              · have HR := Lib.hid (HN.out (decide_eq_false fun h => h4 h.2.2.2))
                go_wp2
                go_roundw
                case rel => exact ⟨k + 1, by omega, by simp, HR.out, HB.out.alloc HB.out.size _⟩
                case measure => simp [intOf]; omega
            · have HR := Lib.hid (HN.out (decide_eq_false fun h => h3 h.2.2.1))
              go_wp2
              go_roundw
              case rel => exact ⟨k + 1, by omega, by simp, HR.out, HB.out.alloc HB.out.size _⟩
              case measure => simp [intOf]; omega
          · have HR := Lib.hid (HN.out (decide_eq_false fun h => h2 h.2.1))
            go_wp2
            go_roundw
            case rel => exact ⟨k + 1, by omega, by simp, HR.out, HB.out.alloc HB.out.size _⟩
            case measure => simp [intOf]; omega
        · have HR := Lib.hid (HN.out (decide_eq_false fun h => h1 h.1))
          go_wp2
          go_roundw
          case rel => exact ⟨k + 1, by omega, by simp, HR.out, HB.out.alloc HB.out.size _⟩
          case measure => simp [intOf]; omega
      · have HB := Lib.hid hb
        have C1 := Lib.hid (show insideB l x y = false by rw [List.take_of_length_le (by rw [← N.out]; omega)] at hall; exact hall)
        obtain rfl : k = n := by omega
        clear hall hb
        go_wp2
        go_ret
        exact ⟨RetB.no fun h => (by rw [C1.out] at h; cases h.2), HB.out⟩
  · have HV := Lib.hid hV
    clear hV
    go_enter Try.func19, Try.ntmps19
    go_wp2_with (go_at_call 24; refine Calls.mono (HP.out _ ((Below.refl _ _).alloc (Nat.le_refl _) _)) ?_; rintro e w1 ⟨hr, hb⟩; obtain rfl := hr.is_no HV.out; have HB := Lib.hid (below_new hb); clear hb hr)
    go_ret
    exact ⟨RetB.no fun h => HV.out h.1, HB.out⟩
end Go.Proofs.Ytkpmgdhaollheaa
