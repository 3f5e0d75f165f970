/- region.common. -/
import Derived.Test.YtdpnkbbphfcngabGU
import Derived.Test.YtdpnkbbphfcngabGAr
import Derived.Test.YtdpnkbbphfcngabGCnt
namespace Go.Proofs.Ytdpnkbbphfcngab
open Go.RowKit Go.Shelf

def rowM (p : Rc) (b : List Rc) : Int := (b.map fun q => meetA p q).sum
def comL (a b : List Rc) : Int := (a.map fun p => rowM p b).sum

theorem meetA_le {p q : Rc} (h : properR p) : 0 ≤ meetA p q ∧ meetA p q ≤ 268435456 := by
  obtain ⟨a, b, c, d, e, f⟩ := h
  unfold meetA
  constructor
  · exact Int.mul_nonneg (by omega) (by omega)
  · exact Int.mul_le_mul (c := 16384) (d := 16384) (by omega) (by omega) (by omega) (by omega)
theorem rowM_le {p : Rc} (h : properR p) : ∀ b : List Rc, 0 ≤ rowM p b ∧ rowM p b ≤ 268435456 * b.length
  | [] => by simp [rowM]
  | q :: b => by
    have h1 := meetA_le (q := q) h
    have h2 := rowM_le h b
    simp only [rowM, List.map_cons, List.sum_cons, List.length_cons] at h2 ⊢
    omega
theorem comL_le {N : Nat} : ∀ {a : List Rc} {b : List Rc}, (∀ r ∈ a, properR r) → b.length ≤ 120 → 0 ≤ comL a b ∧ comL a b ≤ 32212254720 * a.length
  | [], b, _, _ => by simp [comL]
  | p :: a, b, h, hb => by
    have h1 := rowM_le (h p List.mem_cons_self) b
    have h2 := comL_le (N := N) (a := a) (fun q hq => h q (List.mem_cons_of_mem _ hq)) hb
    simp only [comL, List.map_cons, List.sum_cons, List.length_cons] at h2 ⊢
    omega
theorem rowM_take {p : Rc} {b : List Rc} {k : Nat} (hk : k < b.length) : rowM p (b.take (k + 1)) = rowM p (b.take k) + meetA p b[k]! := by
  rw [List.take_succ_eq_append_getElem hk, getElem!_pos b k hk]
  simp only [rowM, List.map_append, List.sum_append, List.map_cons, List.map_nil, List.sum_cons, List.sum_nil]
  omega
theorem comL_take {a b : List Rc} {k : Nat} (hk : k < a.length) : comL (a.take (k + 1)) b = comL (a.take k) b + rowM a[k]! b := by
  rw [List.take_succ_eq_append_getElem hk, getElem!_pos a k hk]
  simp only [comL, List.map_append, List.sum_append, List.map_cons, List.map_nil, List.sum_cons, List.sum_nil]
  omega

set_option maxHeartbeats 4000000 in
set_option maxRecDepth 100000 in
theorem common_any (va vb : Value) (a b : List Rc) (w : World) (ha : RectsAt w va a) (hb : RectsAt w vb b) (hpa : ∀ r ∈ a, properR r) (hpb : ∀ r ∈ b, properR r) (hla : a.length ≤ 120) (hlb : b.length ≤ 120) :
    Calls Try.prog 58 #[.agg #[va], .agg #[vb]] w fun e w' => e = .returned (.int .i64 (comL a b)) ∧ Below w.heap.size w w' := by
  obtain ⟨pa, ca, rfl, hma, hca, ha⟩ := ha
  obtain ⟨pb, cb, rfl, hmb, hcb, hb⟩ := hb
  have HA := Lib.hid ha
  have HB := Lib.hid hb
  have PA := Lib.hid hpa
  have PB := Lib.hid hpb
  obtain ⟨na, hna⟩ : ∃ n, n = a.length := ⟨_, rfl⟩
  obtain ⟨nb, hnb⟩ : ∃ n, n = b.length := ⟨_, rfl⟩
  rw [← hna] at hla ⊢
  rw [← hnb] at hlb ⊢
  have NA := Lib.hid hna
  have NB := Lib.hid hnb
  have hna' : (na : Int) ≤ 120 := by omega
  have hnb' : (nb : Int) ≤ 120 := by omega
  clear ha hb hpa hpb hma hca hmb hcb hna hnb
  have hx1 : BoxAt ((w.alloc (.cells #[.slice pa na ca] 25)).alloc (.cells #[.slice pb nb cb] 25)) (w.heap.size + 1) #[.slice pb nb cb] 25 := by
    have := BoxAt.new (w.alloc (.cells #[.slice pa na ca] 25)) #[.slice pb nb cb] 25
    simpa using this
  have hbw : Below w.heap.size w ((w.alloc (.cells #[.slice pa na ca] 25)).alloc (.cells #[.slice pb nb cb] 25)) := ((Below.refl _ _).alloc (Nat.le_refl _) _).alloc (by simp) _
  have hsz : ((w.alloc (.cells #[.slice pa na ca] 25)).alloc (.cells #[.slice pb nb cb] 25)).heap.size = w.heap.size + 2 := by simp
  have X1 := Lib.hid hx1
  have BW := Lib.hid hbw
  have HSZ := Lib.hid hsz
  clear hx1 hbw hsz
  go_enter Try.func58, Try.ntmps58
  go_wp2_with fail
  generalize (w.alloc (.cells #[.slice pa na ca] 25)).alloc (.cells #[.slice pb nb cb] 25) = w2 at *
  go_loopw [5, 15] (fun s i wr => ∃ k : Nat, k ≤ na ∧ i = .int .i64 k ∧ s = .int .i64 (comL (a.take k) b) ∧ Below w2.heap.size w2 wr) (fun _ i _ => na - (intOf i).toNat)
  case atStart => exact ⟨0, Nat.zero_le _, rfl, rfl, Below.refl _ _⟩
  case round =>
    obtain ⟨k, hk, rfl, rfl, hb⟩ := hrel
    by_cases hkn : k < na
    · have hka : k < a.length := by rw [← NA.out]; exact hkn
      obtain ⟨b1, off, rfl, hlt, hc⟩ := HA.out k hka
      have hlt2 : b1 < w2.heap.size := by have := HSZ.out; omega
      obtain ⟨c0, c1, c2, c3⟩ := (hc.below BW.out hlt).below hb hlt2
      have hkn' : (k : Int) < (na : Int) := by omega
      have HR := Lib.hid (PA.out a[k]! (by rw [getElem!_pos a k hka]; exact List.getElem_mem _))
      have HT := Lib.hid (comL_take (b := b) hka)
      have HQ := Lib.hid (comL_le (N := 0) (a := a.take k) (b := b) (fun q hq => PA.out q (List.mem_of_mem_take hq)) (by rw [← NB.out]; exact hlb))
      have HLK := Lib.hid (show (a.take k).length ≤ 120 by rw [List.length_take]; omega)
      have HB1 := Lib.hid hb
      have XB := Lib.hid ((X1.out.below hb))
      have x1 := ((X1.out.below hb).alloc (.cells #[.int .i64 a[k]!.l, .int .i64 a[k]!.b, .int .i64 a[k]!.r, .int .i64 a[k]!.h] 49)).cell (i := 0) rfl
      have XP := Lib.hid (BoxAt.new wr #[.int .i64 a[k]!.l, .int .i64 a[k]!.b, .int .i64 a[k]!.r, .int .i64 a[k]!.h] 49)
      have BP := Lib.hid (hb.alloc hb.size (.cells #[.int .i64 a[k]!.l, .int .i64 a[k]!.b, .int .i64 a[k]!.r, .int .i64 a[k]!.h] 49))
      have SP := Lib.hid (show (wr.alloc (.cells #[.int .i64 a[k]!.l, .int .i64 a[k]!.b, .int .i64 a[k]!.r, .int .i64 a[k]!.h] 49)).heap.size = wr.heap.size + 1 by simp)
      clear hc hb
      generalize a[k]! = p at *
      generalize comL (a.take k) b = s0 at *
      go_wp2_with fail
      generalize wr.alloc (.cells #[.int .i64 p.l, .int .i64 p.b, .int .i64 p.r, .int .i64 p.h] 49) = w3 at *
      clear c0 c1 c2 c3 x1
      go_loopw [5, 22] (fun s i wk => ∃ j : Nat, j ≤ nb ∧ i = .int .i64 j ∧ s = .int .i64 (s0 + rowM p (b.take j)) ∧ Below w3.heap.size w3 wk) (fun _ i _ => nb - (intOf i).toNat)
      case atStart => exact ⟨0, Nat.zero_le _, rfl, by simp [rowM], Below.refl _ _⟩
      case round =>
        obtain ⟨j, hj, rfl, rfl, hb⟩ := hrel
        by_cases hjn : j < nb
        · have hjb : j < b.length := by rw [← NB.out]; exact hjn
          obtain ⟨b2, off2, rfl, hlt3, hc⟩ := HB.out j hjb
          have hlt4 : b2 < w2.heap.size := by have := HSZ.out; omega
          have hlt5 : b2 < w3.heap.size := by have := BP.out.size; omega
          obtain ⟨c0, c1, c2, c3⟩ := ((hc.below BW.out hlt3).below BP.out hlt4).below hb hlt5
          have hjn' : (j : Int) < (nb : Int) := by omega
          have hq := PB.out b[j]! (by rw [getElem!_pos b j hjb]; exact List.getElem_mem _)
          have HT2 := Lib.hid (rowM_take (p := p) hjb)
          have h1 := rowM_le HR.out (b.take j)
          have h2 : (b.take j).length ≤ 120 := by rw [List.length_take]; omega
          have h3 := HQ.out
          have h4 := HLK.out
          have h5 := meetA_le (q := b[j]!) HR.out
          have hp := HR.out
          have xp := XP.out.below hb
          have p0 := (xp.alloc (.cells #[.int .i64 b[j]!.l, .int .i64 b[j]!.b, .int .i64 b[j]!.r, .int .i64 b[j]!.h] 49)).cell (i := 0) rfl
          have p1 := (xp.alloc (.cells #[.int .i64 b[j]!.l, .int .i64 b[j]!.b, .int .i64 b[j]!.r, .int .i64 b[j]!.h] 49)).cell (i := 1) rfl
          have p2 := (xp.alloc (.cells #[.int .i64 b[j]!.l, .int .i64 b[j]!.b, .int .i64 b[j]!.r, .int .i64 b[j]!.h] 49)).cell (i := 2) rfl
          have p3 := (xp.alloc (.cells #[.int .i64 b[j]!.l, .int .i64 b[j]!.b, .int .i64 b[j]!.r, .int .i64 b[j]!.h] 49)).cell (i := 3) rfl
          have HB2 := Lib.hid hb
          clear hc hb xp
          generalize b[j]! = q at *
          generalize rowM p (b.take j) = s1 at *
          have w1 : wrap64 (min p.r q.r - max p.l q.l) = min p.r q.r - max p.l q.l := by obtain ⟨q0, q1, q2, q3, q4, q5⟩ := hq; obtain ⟨g0, g1, g2, g3, g4, g5⟩ := hp; exact wrap_in (by omega) (by omega)
          have w2' : wrap64 (min p.h q.h - max p.b q.b) = min p.h q.h - max p.b q.b := by obtain ⟨q0, q1, q2, q3, q4, q5⟩ := hq; obtain ⟨g0, g1, g2, g3, g4, g5⟩ := hp; exact wrap_in (by omega) (by omega)
          unfold meetA at h5
          have w3' : wrap64 (max (min p.r q.r - max p.l q.l) 0 * max (min p.h q.h - max p.b q.b) 0) = max (min p.r q.r - max p.l q.l) 0 * max (min p.h q.h - max p.b q.b) 0 := wrap_in (by omega) (by omega)
          have w4 : wrap64 (s0 + s1 + max (min p.r q.r - max p.l q.l) 0 * max (min p.h q.h - max p.b q.b) 0) = s0 + s1 + max (min p.r q.r - max p.l q.l) 0 * max (min p.h q.h - max p.b q.b) 0 := wrap_in (by omega) (by omega)
          clear hq hp h1 h2 h3 h4 h5
          go_wp2
          go_roundw
          case rel => exact ⟨j + 1, by omega, by simp, by rw [HT2.out]; unfold meetA; congr 1; omega, HB2.out.alloc HB2.out.size _⟩
          case measure => simp [intOf]; omega
        · obtain rfl : j = nb := by omega
          have C1 := Lib.hid (show rowM p (b.take j) = rowM p b by rw [List.take_of_length_le (by rw [← NB.out]; omega)])
          have HB2 := Lib.hid hb
          clear hb
          go_wp2
          go_roundw
          case rel => exact ⟨k + 1, by omega, by simp, by rw [HT.out, C1.out], below_step BP.out HB2.out⟩
          case measure => simp [intOf]; omega
    · obtain rfl : k = na := by omega
      have C1 := Lib.hid (show comL (a.take k) b = comL a b by rw [List.take_of_length_le (by rw [← NA.out]; omega)])
      have HB1 := Lib.hid (below_step BW.out hb)
      clear hb
      go_wp2
      go_ret
      exact ⟨congrArg (fun z => Ending.returned (.int .i64 z)) C1.out, HB1.out⟩
end Go.Proofs.Ytdpnkbbphfcngab
