/- The law ShapeOpens: the walk. -/
import Derived.Test.YtdpnkbbphfcngabHW
import Derived.Test.YtdpnkbbphfcngabHQ
import Derived.Test.YtdpnkbbphfcngabGRW
namespace Go.Proofs.Ytdpnkbbphfcngab
open Go.RowKit Go.Shelf

theorem good_box {n : Nat} {l : List Rc} (h : Good n l) : ∀ r ∈ l, 0 ≤ r.l ∧ r.l < r.r ∧ r.r ≤ (n : Int) ∧ 0 ≤ r.b ∧ r.b < r.h ∧ r.h ≤ (n : Int) :=
  canon_box h.can.for h.side
theorem drawn_few {w w' : World} {tb : Nat} {n : Int} {most : Nat} {v : Value} {l : List Rc} (h : Drawn w w' tb n most v l) : ∃ m : List Rc, m.length ≤ most ∧ Filled m ∧ ∀ x y, insideB m x y = insideB l x y := by
  obtain ⟨m, e, h1, h2, h3⟩ := h.of
  have hnil : ∃ m : List Rc, m.length ≤ most ∧ Filled m ∧ ∀ x y, insideB m x y = insideB [] x y := ⟨[], Nat.zero_le _, (fun r hr => by cases hr), fun _ _ => rfl⟩
  rcases h3 with ⟨_, rfl, _⟩ | ⟨_, _, rfl, _⟩ | ⟨_, _, c, hc, hL⟩
  · exact hnil
  · exact hnil
  · rcases hL with ⟨_, rfl, _⟩ | ⟨_, rfl, _⟩
    · exact hnil
    · refine ⟨m, h1, fun r hr => ?_, fun x y => (hc.inside x y).symm⟩
      obtain ⟨_, a, _, _, b, _⟩ := h2 r hr
      exact ⟨a, b⟩
theorem few_move {n : Nat} {l : List Rc} (h : Good n l) (hn : n ≤ 16000) {q : Nat} (hf : ∃ m : List Rc, m.length ≤ q ∧ Filled m ∧ ∀ x y, insideB m x y = insideB l x y) {d : Int} (hd : 0 ≤ d ∧ d ≤ 300) : Few q d (n + d) (l.map (moveR d d)) := by
  refine ⟨⟨⟨by rw [List.length_map]; exact h.len, fun r hr => ?_, canonical_move d d h.can⟩, fun x y hxy => ?_⟩, ?_⟩
  · obtain ⟨r0, hr0, rfl⟩ := List.mem_map.1 hr
    have := good_box h r0 hr0
    unfold properR
    simp only [moveR]
    omega
  · rw [inside_move] at hxy
    have := h.side _ _ hxy
    omega
  · obtain ⟨m, h1, h2, h3⟩ := hf
    refine ⟨m.map (moveR d d), by rw [List.length_map]; exact h1, fun r hr => ?_, fun x y => by rw [inside_move, inside_move, h3]⟩
    obtain ⟨r0, hr0, rfl⟩ := List.mem_map.1 hr
    have := h2 r0 hr0
    simp only [moveR]
    omega

theorem u8_range {a : Int} (w : (Lit.int .u8 a).wf = true) : 0 ≤ a ∧ a ≤ 255 := by
  simp [Lit.wf, IntKind.min, IntKind.max, IntKind.signed, IntKind.bits] at w
  omega

set_option maxHeartbeats 16000000 in
set_option maxRecDepth 100000 in
theorem opens_law (v : Value) (n : Nat) (g0 : Nat → Int) (a1 : Int) (w1 : (Lit.int .u8 a1).wf = true) (a2 : Int) (w2 : (Lit.int .u8 a2).wf = true) (W : World) (hI : IntsAt .i64 W v n g0) (hcap : CapAt v) :
    Calls Try.prog 4 #[v, .int .u8 a1, .int .u8 a2] W fun e w' => e = .returned (.bool true) ∧ Below W.heap.size W w' := by
  have hNew := new_any v n g0 W hI hcap
  clear hI hcap
  have ha1 := u8_range w1
  have ha2 := u8_range w2
  clear w1 w2
  go_enter Try.func4, Try.ntmps4
  go_wp2_with fail
  refine hNew.mono ?_
  rintro e w1 ⟨rfl, hb1, ht1, hz⟩
  have hRg := region_any w1 W.heap.size ht1 7 (by omega) (by omega) 3 (by omega)
  clear hNew ht1
  go_wp2_with fail
  refine hRg.mono ?_
  rintro e w2 ⟨va, a0, rfl, hD⟩
  have G0 : Hid (Good 7 a0) := drawn_good (n := 7) hD (by decide)
  have F0 := Lib.hid (drawn_few hD)
  have RA : Hid (RectsAt w2 va a0) := hD.at_
  have BW0 : Hid (Below W.heap.size W w2) := by
    have h1 := hD.gr
    exact ⟨h1.os.trans hb1.os, h1.tape.trans hb1.tape, h1.output.trans hb1.output, Nat.le_trans hb1.size h1.size, fun k hk => (h1.block k (by have := hb1.size; omega) (by simp; omega)).trans (hb1.block k hk)⟩
  clear hRg hD hb1 hz
  obtain ⟨p0, c0, rfl⟩ := RA.out.shape
  have hMv := refMove_ok _ a0 20 20 w2 RA.out G0.out.valid (by omega) (by omega) (fun r hr => by have := good_box G0.out r hr; omega)
  go_wp2_with fail
  refine hMv.mono ?_
  rintro e v_a_ ⟨⟨va, a, e_a, rfl, hr, _, ha, rfl⟩, hb⟩
  have FA := Lib.hid (show Few 3 20 (7 + 20) a by rw [ha]; exact few_move G0.out (by decide) F0.out (by omega))
  obtain ⟨p_a, c_a, rfl⟩ := hr.shape

  have bJ : Below v_a_.heap.size v_a_ (v_a_.alloc (.cells #[.slice p_a a.length c_a] 25)) := (Below.refl _ _).alloc (Nat.le_refl _) _
  have X_a := Lib.hid (BoxAt.new v_a_ #[.slice p_a a.length c_a] 25)
  have R_a := Lib.hid (hr.below bJ)
  have BW := Lib.hid (below_step (below_step BW0.out hb) bJ)
  have x_a := X_a.out.cell (i := 0) rfl
  clear hMv hr hb ha bJ G0 F0 RA BW0
  go_wp2_with fail
  generalize hk : a1 % 4 = k at *
  generalize hm : a2 % 4 = m at *
  have hk0 : 0 ≤ k ∧ k ≤ 3 := by omega
  have hm0 : 0 ≤ m ∧ m ≤ 3 := by omega
  clear hk hm
  generalize v_a_.alloc (.cells #[.slice p_a a.length c_a] 25) = w_0 at *
  refine (grow_any _ a k _ R_a.out).mono ?_
  rintro e v_g_ ⟨⟨v_g, g, e_g, rfl, hr, _, hq⟩, hb⟩
  obtain ⟨rfl, f1, s1⟩ := few_grow FA.out (by decide) (by omega) (by omega) (by omega) hq
  have FG := Lib.hid f1
  have SG := Lib.hid s1
  clear f1 s1 hq
  obtain ⟨p_g, c_g, rfl⟩ := hr.shape
  have bJ : Below v_g_.heap.size v_g_ (v_g_.alloc (.cells #[.slice p_g g.length c_g] 25)) := (Below.refl _ _).alloc (Nat.le_refl _) _
  have bIJ := below_step hb bJ
  have Y_a := Lib.hid (X_a.out.below bIJ)
  have Q_a := Lib.hid (R_a.out.below bIJ)
  clear X_a R_a
  have X_a := Lib.hid Y_a.out
  have R_a := Lib.hid Q_a.out
  clear Y_a Q_a
  have X_g := Lib.hid (BoxAt.new v_g_ #[.slice p_g g.length c_g] 25)
  have R_g := Lib.hid (hr.below bJ)
  have BW2 := Lib.hid (below_step BW.out bIJ)
  clear BW
  have BW := Lib.hid BW2.out
  clear BW2
  clear hr hb bJ bIJ
  have x_g := X_g.out.cell (i := 0) rfl
  go_wp2_with fail
  generalize v_g_.alloc (.cells #[.slice p_g g.length c_g] 25) = w_1 at *
  refine (shrink_any _ g k _ R_g.out).mono ?_
  rintro e v_h_ ⟨⟨v_h, h, e_h, rfl, hr, _, hq⟩, hb⟩
  obtain ⟨rfl, f1, s1⟩ := box_shrink FG.out.toBx (by omega) (by omega) (by omega) (by omega) hq
  have FH := Lib.hid f1
  have SH := Lib.hid s1
  clear f1 s1 hq
  obtain ⟨p_h, c_h, rfl⟩ := hr.shape
  have bJ : Below v_h_.heap.size v_h_ (v_h_.alloc (.cells #[.slice p_h h.length c_h] 25)) := (Below.refl _ _).alloc (Nat.le_refl _) _
  have bIJ := below_step hb bJ
  have Y_a := Lib.hid (X_a.out.below bIJ)
  have Q_a := Lib.hid (R_a.out.below bIJ)
  clear X_a R_a
  have X_a := Lib.hid Y_a.out
  have R_a := Lib.hid Q_a.out
  clear Y_a Q_a
  have Y_g := Lib.hid (X_g.out.below bIJ)
  have Q_g := Lib.hid (R_g.out.below bIJ)
  clear X_g R_g
  have X_g := Lib.hid Y_g.out
  have R_g := Lib.hid Q_g.out
  clear Y_g Q_g
  have X_h := Lib.hid (BoxAt.new v_h_ #[.slice p_h h.length c_h] 25)
  have R_h := Lib.hid (hr.below bJ)
  have BW2 := Lib.hid (below_step BW.out bIJ)
  clear BW
  have BW := Lib.hid BW2.out
  clear BW2
  clear hr hb bJ bIJ
  have x_a := X_a.out.cell (i := 0) rfl
  go_wp2_with fail
  generalize v_h_.alloc (.cells #[.slice p_h h.length c_h] 25) = w_2 at *
  refine (shrink_any _ a k _ R_a.out).mono ?_
  rintro e v_s_ ⟨⟨v_s, s, e_s, rfl, hr, _, hq⟩, hb⟩
  obtain ⟨rfl, f1, s1⟩ := box_shrink FA.out.toBx (by omega) (by omega) (by omega) (by omega) hq
  have FS := Lib.hid f1
  have SS := Lib.hid s1
  clear f1 s1 hq
  obtain ⟨p_s, c_s, rfl⟩ := hr.shape
  have bJ : Below v_s_.heap.size v_s_ (v_s_.alloc (.cells #[.slice p_s s.length c_s] 25)) := (Below.refl _ _).alloc (Nat.le_refl _) _
  have bIJ := below_step hb bJ
  have Y_a := Lib.hid (X_a.out.below bIJ)
  have Q_a := Lib.hid (R_a.out.below bIJ)
  clear X_a R_a
  have X_a := Lib.hid Y_a.out
  have R_a := Lib.hid Q_a.out
  clear Y_a Q_a
  have Y_g := Lib.hid (X_g.out.below bIJ)
  have Q_g := Lib.hid (R_g.out.below bIJ)
  clear X_g R_g
  have X_g := Lib.hid Y_g.out
  have R_g := Lib.hid Q_g.out
  clear Y_g Q_g
  have Y_h := Lib.hid (X_h.out.below bIJ)
  have Q_h := Lib.hid (R_h.out.below bIJ)
  clear X_h R_h
  have X_h := Lib.hid Y_h.out
  have R_h := Lib.hid Q_h.out
  clear Y_h Q_h
  have X_s := Lib.hid (BoxAt.new v_s_ #[.slice p_s s.length c_s] 25)
  have R_s := Lib.hid (hr.below bJ)
  have BW2 := Lib.hid (below_step BW.out bIJ)
  clear BW
  have BW := Lib.hid BW2.out
  clear BW2
  clear hr hb bJ bIJ
  have x_s := X_s.out.cell (i := 0) rfl
  go_wp2_with fail
  generalize v_s_.alloc (.cells #[.slice p_s s.length c_s] 25) = w_3 at *
  refine (grow_any _ s k _ R_s.out).mono ?_
  rintro e v_u_ ⟨⟨v_u, u, e_u, rfl, hr, _, hq⟩, hb⟩
  obtain ⟨rfl, f1, s1⟩ := box_grow FS.out (by omega) (by omega) (by omega) (by omega) hq
  have FU := Lib.hid f1
  have SU := Lib.hid s1
  clear f1 s1 hq
  obtain ⟨p_u, c_u, rfl⟩ := hr.shape
  have bJ : Below v_u_.heap.size v_u_ (v_u_.alloc (.cells #[.slice p_u u.length c_u] 25)) := (Below.refl _ _).alloc (Nat.le_refl _) _
  have bIJ := below_step hb bJ
  have Y_a := Lib.hid (X_a.out.below bIJ)
  have Q_a := Lib.hid (R_a.out.below bIJ)
  clear X_a R_a
  have X_a := Lib.hid Y_a.out
  have R_a := Lib.hid Q_a.out
  clear Y_a Q_a
  have Y_g := Lib.hid (X_g.out.below bIJ)
  have Q_g := Lib.hid (R_g.out.below bIJ)
  clear X_g R_g
  have X_g := Lib.hid Y_g.out
  have R_g := Lib.hid Q_g.out
  clear Y_g Q_g
  have Y_h := Lib.hid (X_h.out.below bIJ)
  have Q_h := Lib.hid (R_h.out.below bIJ)
  clear X_h R_h
  have X_h := Lib.hid Y_h.out
  have R_h := Lib.hid Q_h.out
  clear Y_h Q_h
  have Y_s := Lib.hid (X_s.out.below bIJ)
  have Q_s := Lib.hid (R_s.out.below bIJ)
  clear X_s R_s
  have X_s := Lib.hid Y_s.out
  have R_s := Lib.hid Q_s.out
  clear Y_s Q_s
  have X_u := Lib.hid (BoxAt.new v_u_ #[.slice p_u u.length c_u] 25)
  have R_u := Lib.hid (hr.below bJ)
  have BW2 := Lib.hid (below_step BW.out bIJ)
  clear BW
  have BW := Lib.hid BW2.out
  clear BW2
  clear hr hb bJ bIJ
  have x_g := X_g.out.cell (i := 0) rfl
  go_wp2_with fail
  generalize v_u_.alloc (.cells #[.slice p_u u.length c_u] 25) = w_4 at *
  refine (grow_any _ g m _ R_g.out).mono ?_
  rintro e v_t_ ⟨⟨v_t, t, e_t, rfl, hr, _, hq⟩, hb⟩
  obtain ⟨rfl, f1, s1⟩ := few_grow FG.out (by decide) (by omega) (by omega) (by omega) hq
  have FT := Lib.hid f1
  have ST := Lib.hid s1
  clear f1 s1 hq
  obtain ⟨p_t, c_t, rfl⟩ := hr.shape
  have bJ : Below v_t_.heap.size v_t_ (v_t_.alloc (.cells #[.slice p_t t.length c_t] 25)) := (Below.refl _ _).alloc (Nat.le_refl _) _
  have bIJ := below_step hb bJ
  have Y_a := Lib.hid (X_a.out.below bIJ)
  have Q_a := Lib.hid (R_a.out.below bIJ)
  clear X_a R_a
  have X_a := Lib.hid Y_a.out
  have R_a := Lib.hid Q_a.out
  clear Y_a Q_a
  have Y_g := Lib.hid (X_g.out.below bIJ)
  have Q_g := Lib.hid (R_g.out.below bIJ)
  clear X_g R_g
  have X_g := Lib.hid Y_g.out
  have R_g := Lib.hid Q_g.out
  clear Y_g Q_g
  have Y_h := Lib.hid (X_h.out.below bIJ)
  have Q_h := Lib.hid (R_h.out.below bIJ)
  clear X_h R_h
  have X_h := Lib.hid Y_h.out
  have R_h := Lib.hid Q_h.out
  clear Y_h Q_h
  have Y_s := Lib.hid (X_s.out.below bIJ)
  have Q_s := Lib.hid (R_s.out.below bIJ)
  clear X_s R_s
  have X_s := Lib.hid Y_s.out
  have R_s := Lib.hid Q_s.out
  clear Y_s Q_s
  have Y_u := Lib.hid (X_u.out.below bIJ)
  have Q_u := Lib.hid (R_u.out.below bIJ)
  clear X_u R_u
  have X_u := Lib.hid Y_u.out
  have R_u := Lib.hid Q_u.out
  clear Y_u Q_u
  have X_t := Lib.hid (BoxAt.new v_t_ #[.slice p_t t.length c_t] 25)
  have R_t := Lib.hid (hr.below bJ)
  have BW2 := Lib.hid (below_step BW.out bIJ)
  clear BW
  have BW := Lib.hid BW2.out
  clear BW2
  clear hr hb bJ bIJ
  have x_a := X_a.out.cell (i := 0) rfl
  go_wp2_with fail
  generalize v_t_.alloc (.cells #[.slice p_t t.length c_t] 25) = w_5 at *
  refine (grow_any _ a (k + m) _ R_a.out).mono ?_
  rintro e v_o_ ⟨⟨v_o, o, e_o, rfl, hr, _, hq⟩, hb⟩
  obtain ⟨rfl, f1, s1⟩ := few_grow FA.out (by decide) (by omega) (by omega) (by omega) hq
  have FO := Lib.hid f1
  have SO := Lib.hid s1
  clear f1 s1 hq
  obtain ⟨p_o, c_o, rfl⟩ := hr.shape
  have bJ : Below v_o_.heap.size v_o_ (v_o_.alloc (.cells #[.slice p_o o.length c_o] 25)) := (Below.refl _ _).alloc (Nat.le_refl _) _
  have bIJ := below_step hb bJ
  have Y_a := Lib.hid (X_a.out.below bIJ)
  have Q_a := Lib.hid (R_a.out.below bIJ)
  clear X_a R_a
  have X_a := Lib.hid Y_a.out
  have R_a := Lib.hid Q_a.out
  clear Y_a Q_a
  have Y_g := Lib.hid (X_g.out.below bIJ)
  have Q_g := Lib.hid (R_g.out.below bIJ)
  clear X_g R_g
  have X_g := Lib.hid Y_g.out
  have R_g := Lib.hid Q_g.out
  clear Y_g Q_g
  have Y_h := Lib.hid (X_h.out.below bIJ)
  have Q_h := Lib.hid (R_h.out.below bIJ)
  clear X_h R_h
  have X_h := Lib.hid Y_h.out
  have R_h := Lib.hid Q_h.out
  clear Y_h Q_h
  have Y_s := Lib.hid (X_s.out.below bIJ)
  have Q_s := Lib.hid (R_s.out.below bIJ)
  clear X_s R_s
  have X_s := Lib.hid Y_s.out
  have R_s := Lib.hid Q_s.out
  clear Y_s Q_s
  have Y_u := Lib.hid (X_u.out.below bIJ)
  have Q_u := Lib.hid (R_u.out.below bIJ)
  clear X_u R_u
  have X_u := Lib.hid Y_u.out
  have R_u := Lib.hid Q_u.out
  clear Y_u Q_u
  have Y_t := Lib.hid (X_t.out.below bIJ)
  have Q_t := Lib.hid (R_t.out.below bIJ)
  clear X_t R_t
  have X_t := Lib.hid Y_t.out
  have R_t := Lib.hid Q_t.out
  clear Y_t Q_t
  have X_o := Lib.hid (BoxAt.new v_o_ #[.slice p_o o.length c_o] 25)
  have R_o := Lib.hid (hr.below bJ)
  have BW2 := Lib.hid (below_step BW.out bIJ)
  clear BW
  have BW := Lib.hid BW2.out
  clear BW2
  clear hr hb bJ bIJ
  have x_a := X_a.out.cell (i := 0) rfl
  have x_h := X_h.out.cell (i := 0) rfl
  have K1 := Lib.hid (fun (w' : World) (ha : RectsAt w' (.slice p_a a.length c_a) a) (hh : RectsAt w' (.slice p_h h.length c_h) h) => refWithin_any _ _ a h w' ha hh)
  have Y1 := Lib.hid (show ValidP a ∧ ValidP h ∧ Sub a h from ⟨FA.out.ok, FH.out.ok, fun x y hi => (SH.out x y).2 fun u v h1 h2 h3 h4 => (SG.out u v).2 ⟨x, y, by omega, by omega, by omega, by omega, hi⟩⟩)
  have Y2 := Lib.hid (show ValidP u ∧ ValidP a ∧ Sub u a from ⟨FU.out.ok, FA.out.ok, fun x y hi => by
    obtain ⟨p, q, h1, h2, h3, h4, hs⟩ := (SU.out x y).1 hi
    exact (SS.out p q).1 hs x y (by omega) (by omega) (by omega) (by omega)⟩)
  have Y3 := Lib.hid (show t = o from canonical_ext FT.out.ok.2.2 FO.out.ok.2.2 fun x y => by
    rw [Bool.eq_iff_iff, ST.out, SO.out]
    exact near_near hk0.1 hm0.1 SG.out x y)
  go_wp2_with fail
  generalize v_o_.alloc (.cells #[.slice p_o o.length c_o] 25) = w_6 at *
  refine (refWithin_any _ _ a h w_6 R_a.out R_h.out).mono ?_
  rintro e w_7 ⟨hr, hb7⟩
  obtain rfl := hr.is_yes Y1.out
  have x_u := (X_u.out.below hb7).cell (i := 0) rfl
  have x_a7 := (X_a.out.below hb7).cell (i := 0) rfl
  clear hr
  go_wp2_with fail
  refine (refWithin_any _ _ u a w_7 (R_u.out.below hb7) (R_a.out.below hb7)).mono ?_
  rintro e w_8 ⟨hr, hb8⟩
  obtain rfl := hr.is_yes Y2.out
  have hb68 := below_step hb7 hb8
  have x_t := (X_t.out.below hb68).cell (i := 0) rfl
  have x_o := (X_o.out.below hb68).cell (i := 0) rfl
  clear hr
  go_wp2_with fail
  refine (refSameR_any _ _ t o w_8 (R_t.out.below hb68) (R_o.out.below hb68)).mono ?_
  rintro e w_9 ⟨hr, hb9⟩
  obtain rfl := hr.is_yes Y3.out
  have B9 := Lib.hid (below_step BW.out (below_step hb68 hb9))
  clear hr hb7 hb8 hb68 hb9
  go_wp2_with fail
  refine (awake6_any _).mono ?_
  rintro e w_10 ⟨rfl, hb10⟩
  have B10 := Lib.hid (below_step B9.out hb10)
  clear hb10
  go_wp2
  go_ret
  exact ⟨rfl, B10.out⟩
end Go.Proofs.Ytdpnkbbphfcngab
