/- landaidref02.Same at equal lists. -/
import Derived.Test.YtainjdmgncicmaaDoorWM
namespace Go.Proofs.YtainjdmgncicmaaDoor
open Go.RowKit Go.Shelf

set_option maxHeartbeats 1000000 in
set_option maxRecDepth 100000 in
theorem same_true (v1 v2 : Value) (ls : List (List ByteArray)) (hN : ls.length ≤ 4611686018427387904) (hM : ∀ l ∈ ls, l.length ≤ 4611686018427387904) (w : World) (h1 : LinesAt w v1 ls) (h2 : LinesAt w v2 ls) :
    Calls Tryd.prog 15 #[v1, v2] w fun e w' => e = .returned (.bool true) ∧ ∃ q, w' = w.drewN q := by
  obtain ⟨p1, c1, rfl, h1⟩ := h1
  obtain ⟨p2, c2, rfl, h2⟩ := h2
  have H1 := Lib.hid h1
  have H2 := Lib.hid h2
  have HM := Lib.hid hM
  clear h1 h2 hM
  go_enter Tryd.func15, Tryd.ntmps15
  go_wp2
  go_loopw [14] (fun v wr => ∃ j q : Nat, j ≤ ls.length ∧ v = .int .i64 j ∧ wr = w.drewN q) (fun v _ => ls.length - (intOf v).toNat)
  case atStart => exact ⟨0, 0, Nat.zero_le _, rfl, rfl⟩
  case round =>
    obtain ⟨j, q, hj, rfl, rfl⟩ := hrel
    by_cases hlt : j < ls.length
    · obtain ⟨b1, o1, rfl, hl1, hc1⟩ := H1.out (by omega)
      obtain ⟨b2, o2, rfl, hl2, hc2⟩ := H2.out (by omega)
      obtain ⟨l, hx⟩ : ∃ l, ls[j]? = some l := ⟨_, List.getElem?_eq_getElem hlt⟩
      have hll := HM.out l (List.mem_of_getElem? hx)
      obtain ⟨u1, g1, k1⟩ := hc1 j l hx
      obtain ⟨u2, g2, k2⟩ := hc2 j l hx
      obtain ⟨r1, d1, rfl, _, k1⟩ := k1
      obtain ⟨r2, d2, rfl, _, k2⟩ := k2
      have K1 := Lib.hid k1
      have K2 := Lib.hid k2
      have hlt' : (j : Int) < (ls.length : Int) := by omega
      clear hc1 hc2 k1 k2
      generalize hnn : ls.length = nn at *
      go_wp2
      go_quiet (fail)
      go_wp2
      go_loopw [33] (fun v wr => ∃ k q : Nat, k ≤ l.length ∧ v = .int .i64 k ∧ wr = w.drewN q) (fun v _ => l.length - (intOf v).toNat)
      case atStart => exact ⟨0, q + nq, Nat.zero_le _, rfl, rfl⟩
      case round =>
        obtain ⟨k, q, hk, rfl, rfl⟩ := hrel
        by_cases hkl : k < l.length
        · obtain ⟨e1, s1, rfl, _, m1⟩ := K1.out (by omega)
          obtain ⟨e2, s2, rfl, _, m2⟩ := K2.out (by omega)
          obtain ⟨x, hxk⟩ : ∃ x, l[k]? = some x := ⟨_, List.getElem?_eq_getElem hkl⟩
          have f1 := m1 k x hxk
          have f2 := m2 k x hxk
          have hkl' : (k : Int) < (l.length : Int) := by omega
          clear m1 m2
          generalize hlk : l.length = kk at *
          go_wp2
          go_quiet (fail)
          go_wp2
          go_roundw
          case rel => exact ⟨k + 1, q + nq, by omega, by go_num, rfl⟩
          case measure => simp [intOf]; omega
        · obtain rfl : k = l.length := by omega
          go_wp2
          go_roundw
          case rel => exact ⟨j + 1, q, by omega, by go_num, rfl⟩
          case measure => simp [intOf]; omega
    · obtain rfl : j = ls.length := by omega
      go_wp2
      go_ret
      exact ⟨rfl, q, rfl⟩
end Go.Proofs.YtainjdmgncicmaaDoor
