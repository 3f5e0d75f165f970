/- rectsOf: the rectangles of bands. -/
import Derived.Test.YtkpmgdhaollheaaGI
namespace Go.Proofs.Ytkpmgdhaollheaa
open Go.RowKit Go.Shelf

theorem encR_len (r : Rc) : (encR r).length = 4 := rfl
theorem info_rect : (Try.prog.info? 39).map (fun i => (i.zero, i.size, i.bytes)) = some (some (.agg #[.int .i64 0, .int .i64 0, .int .i64 0, .int .i64 0]), 4, 32) := by kernel_rfl

def flatB (l : List BB) : List Rc := flat (l.map BB.band)
theorem flatB_succ {l : List BB} {k : Nat} (h : k < l.length) : flatB (l.take (k + 1)) = flatB (l.take k) ++ l[k]!.c.map (mkR l[k]!.lo l[k]!.hi) := by
  rw [List.take_succ_eq_append_getElem h, getElem!_pos l k h, flatB, List.map_append, flat_append]
  simp [flat, flatB, BB.band]
theorem flatB_le {N : Nat} {l : List BB} (h : ∀ b ∈ l, b.c.length ≤ N) : (flatB l).length ≤ l.length * N := by
  induction l with
  | nil => simp [flatB, flat]
  | cons b l ih =>
    have := h b (by simp)
    have ih := ih fun b hb => h b (List.mem_cons_of_mem _ hb)
    show (b.c.map (mkR b.lo b.hi) ++ flatB l).length ≤ _
    rw [List.length_append, List.length_map, List.length_cons, Nat.add_mul]
    omega
theorem flatB_take_len {l : List BB} (h : (flatB l).length ≤ 200000000000) (k : Nat) : (flatB (l.take k)).length ≤ 200000000000 := by
  have e : flatB l = flatB (l.take k) ++ flatB (l.drop k) := by
    rw [flatB, flatB, flatB, ← flat_append, ← List.map_append, List.take_append_drop]
  rw [e, List.length_append] at h
  omega

theorem BoxAt.grown {w w' : World} {b : Nat} {cs : Array Value} {t e : TypeId} {B k n : Nat} {v : Value} {xs : List Value} (h : BoxAt w b cs t) (hte : t ≠ e) (hg : w.grownBy w' v.ownBlock) (ho : w.ownsRow B e k v n xs) : BoxAt w' b cs t := by
  refine (hg.block b h.lt ?_).trans h
  intro e1
  obtain ⟨c, fz, hc⟩ := Lib.ownsRow_kind ho b e1.symm
  rw [show w.heap[b]? = _ from h] at hc
  simp at hc
  exact hte hc.2.1
theorem BoxAt.set {w : World} {b : Nat} {cs : Array Value} {t : TypeId} (h : BoxAt w b cs t) (i : Nat) (u : Value) : BoxAt (w.setCell ⟨b, i, none⟩ u) b (cs.setIfInBounds i u) t := heap_setCell_same w b i _ _ _ h

set_option maxHeartbeats 4000000 in
set_option maxRecDepth 100000 in
theorem rectsOf_any (v : Value) (l : List BB) (B : Nat) (w : World) (h : OwnAt w B 99 3 encB v l) (hl : l.length ≤ 200000000000) (hfl : (flatB l).length ≤ 200000000000) (hsp : ∀ b ∈ l, RowRd w 2 encS b.v b.c ∧ b.c.length ≤ 200000000000) :
    Calls Try.prog 93 #[v] w fun e w' => ∃ v', e = .returned v' ∧ OwnAt w' w.heap.size 39 4 encR v' (flatB l) ∧ Below w.heap.size w w' := by
  obtain ⟨i0, hi, hz0, hz1, hz2⟩ := info_parts info_rect
  obtain ⟨p, cap, rfl⟩ := h.shape
  have HE := Lib.hid h
  have HS := Lib.hid hsp
  have HL := Lib.hid (flatB_take_len (l := l) hfl)
  obtain ⟨n, hn⟩ : ∃ n, n = l.length := ⟨_, rfl⟩
  rw [← hn]
  have N := Lib.hid hn
  have hn' : (n : Int) ≤ 200000000000 := by omega
  clear h hn hsp hfl
  go_enter Try.func93, Try.ntmps93
  go_wp2
  go_loopw [3, 10] (fun u i wr => ∃ k : Nat, k ≤ n ∧ i = .int .i64 k ∧ OwnAt wr w.heap.size 39 4 encR u (flatB (l.take k)) ∧ Below w.heap.size w wr) (fun _ i _ => n - (intOf i).toNat)
  case atStart => exact ⟨0, Nat.zero_le _, rfl, OwnAt.nil .., Below.refl _ _⟩
  case round =>
    obtain ⟨k, hk, rfl, hown, hb⟩ := hrel
    by_cases hkn : k < n
    · have hkE : k < l.length := by rw [← N.out]; exact hkn
      have hE := HE.out.kept hb
      obtain ⟨g, cap', e1, _, hg, _⟩ := hE.form (by omega)
      cases e1
      have d0 := hE.cell encB_len rfl hkE (i := 0) rfl
      have d1 := hE.cell encB_len rfl hkE (i := 1) rfl
      have d2 := hE.cell encB_len rfl hkE (i := 2) rfl
      simp only [Nat.add_zero] at d0
      have hkn' : (k : Int) < (n : Int) := by omega
      obtain ⟨hrd, hcl⟩ := HS.out l[k]! (by rw [getElem!_pos l k hkE]; exact List.getElem_mem _)
      have HRD := Lib.hid hrd
      obtain ⟨p2, cap2, e2, _⟩ := hrd
      have hlen1 := HL.out k
      have HFS := Lib.hid (flatB_succ hkE)
      have HO := Lib.hid hown
      have HB := Lib.hid hb
      clear hE hb hown
      generalize l[k]! = b at *
      obtain ⟨blo, bhi, bv, bc⟩ := b
      dsimp only at e2 hcl HFS HRD
      subst e2
      generalize hpre : flatB (l.take k) = pre at *
      generalize hm : bc.length = m at *
      have hm' : (m : Int) ≤ 200000000000 := by omega
      have hwr : w.heap.size ≤ wr.heap.size := HB.out.size
      generalize hwk : wr = wk at *
      go_wp2
      go_loopw [3, 17] (fun u i wr => ∃ j : Nat, j ≤ m ∧ i = .int .i64 j ∧ OwnAt wr w.heap.size 39 4 encR u (pre ++ (bc.take j).map (mkR blo bhi)) ∧ Below w.heap.size w wr ∧ BoxAt wr wk.heap.size #[.int .i64 blo, .int .i64 bhi, .slice p2 m cap2] 99) (fun _ i _ => m - (intOf i).toNat)
      case atStart => exact ⟨0, Nat.zero_le _, rfl, by rw [List.take_zero, List.map_nil, List.append_nil]; exact World.ownsRow.alloc HO.out _, HB.out.alloc HB.out.size _, BoxAt.new ..⟩
      case round =>
        obtain ⟨j, hj, rfl, hown, hb, hbox⟩ := hrel
        have x0 := hbox.cell (i := 0) rfl
        have x1 := hbox.cell (i := 1) rfl
        by_cases hjm : j < m
        · obtain ⟨p3, c3, e3, hcc⟩ := HRD.out.below hb
          rw [hm] at e3
          cases e3
          obtain ⟨b2, o2, rfl, hcd⟩ := hcc j (by rw [hm]; exact hjm)
          have s0 := hcd 0 _ rfl
          have s1 := hcd 1 _ rfl
          simp only [Nat.add_zero] at s0
          have hb2 := World.block_lt_of_cell? _ _ s0
          have n2 : b2 ≠ wr.heap.size := by intro e; simp [e] at hb2
          have hb1 := hbox.lt
          have n3 : wk.heap.size ≠ wr.heap.size := by omega
          have hjm' : (j : Int) < (m : Int) := by omega
          have hstep : (bc.take (j + 1)).map (mkR blo bhi) = (bc.take j).map (mkR blo bhi) ++ [mkR blo bhi bc[j]!] := by
            rw [List.take_succ_eq_append_getElem (by omega), List.map_append, getElem!_pos bc j (by omega)]; rfl
          have HST := Lib.hid hstep
          have hlen : (pre ++ (bc.take j).map (mkR blo bhi)).length ≤ 400000000000 := by rw [List.length_append, List.length_map, List.length_take]; omega
          have hxs := hown
          unfold OwnAt at hxs
          have HB1 := Lib.hid hb
          have HX1 := Lib.hid hbox
          clear hcc hcd hb hown hbox hstep
          generalize bc[j]! = s at *
          generalize hl0 : pre ++ (bc.take j).map (mkR blo bhi) = l0 at *
          generalize hl1 : l0.length = len at *
          generalize hxe : l0.flatMap encR = xs at hxs
          go_wp2_with (first | (at_builtin; refine wpList_append_own _ rfl _ _ 25 rfl w.heap.size 39 i0 _ 4 32 Try.underlying25 hi hz0 hz1 hz2 rfl (by decide) _ _ _ rfl ((hxs.alloc _).alloc _) ⟨wr.heap.size + 1, 0, none⟩ 1 1 [.int .i64 s.1, .int .i64 blo, .int .i64 s.2, .int .i64 bhi] rfl rfl ?c1 ?c2 ?c3 ?c4 ?c5 ?_))
          case c2 => exact ⟨rfl, rfl, rfl, rfl⟩
          case c3 => unfold maxLen; omega
          case c4 => omega
          case c5 => have := HB1.out.size; omega
          intro v' w1 hown1 hgrow _
          subst hxe
          have HB2 := Lib.hid ((((HB1.out.alloc HB1.out.size _).alloc (by have := HB1.out.size; simp; omega) _).grown hgrow (by have := HB1.out.size; simp; omega) (ownsRow_ge hxs)))
          have HX2 := Lib.hid (((HX1.out.alloc _).alloc _).grown (by decide) hgrow ((hxs.alloc _).alloc _))
          have HO2 := Lib.hid (OwnAt.snoc (l := l0) (m := [mkR blo bhi s]) (n := 1) (enc := encR) rfl (by rw [hl1]; exact hown1))
          clear hxs hown1 hgrow
          go_wp2
          go_roundw
          case rel => exact ⟨j + 1, by omega, by simp, by rw [HST.out, ← List.append_assoc, hl0]; exact HO2.out, HB2.out, HX2.out⟩
          case measure => simp [intOf]; omega
        · obtain rfl : j = m := by omega
          rw [List.take_of_length_le (by omega)] at hown
          have HB1 := Lib.hid hb
          have HO1 := Lib.hid hown
          clear hown hb hbox x0 x1
          go_wp2
          go_roundw
          case rel => exact ⟨k + 1, by omega, by simp, by rw [HFS.out]; exact HO1.out, HB1.out⟩
          case measure => simp [intOf]; omega
    · obtain rfl : k = n := by omega
      rw [N.out, List.take_of_length_le (Nat.le_refl _)] at hown
      have HB := Lib.hid hb
      have HO := Lib.hid hown
      clear hown hb
      go_wp2
      go_ret
      exact ⟨_, rfl, HO.out, HB.out⟩
end Go.Proofs.Ytkpmgdhaollheaa
