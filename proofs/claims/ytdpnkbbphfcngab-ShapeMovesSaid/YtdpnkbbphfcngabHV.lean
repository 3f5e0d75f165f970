/- The law ShapeMoves: the walk. -/
import Derived.Test.YtdpnkbbphfcngabHU
namespace Go.Proofs.Ytdpnkbbphfcngab
open Go.RowKit Go.Shelf

theorem after_region {w3 wc w4 : World} {tb k : Nat} {va vm : Value} {a m : List Rc} {n : Int} {q : Nat} (hc : Below w3.heap.size w3 wc) (hE : Drawn wc w4 tb n q vm m) (hX : BoxAt w3 k #[va] 25) (hk : tb < k) (hR : RectsAt w3 va a) (hO : ∀ j, va.ownBlock = some j → tb < j) :
    BoxAt w4 k #[va] 25 ∧ RectsAt w4 va a ∧ w3.grownBy w4 (some tb) :=
  ⟨(hX.below hc).but hE.gr (by simp; omega), (hR.below hc).but hE.gr (fun j hj e => by have := hO j hj; have e' : tb = j := (by simpa using e); omega), gr_and (gr_low hc (Nat.le_refl _)) hE.gr (fun j hj => .inr hj)⟩
theorem bw_gr {W w3 w4 : World} (hb1 : Below W.heap.size W w3) (h1 : w3.grownBy w4 (some W.heap.size)) : Below W.heap.size W w4 :=
  ⟨h1.os.trans hb1.os, h1.tape.trans hb1.tape, h1.output.trans hb1.output, Nat.le_trans hb1.size h1.size, fun k hk => (h1.block k (by have := hb1.size; omega) (by simp; omega)).trans (hb1.block k hk)⟩
theorem RectsAt.past {w3 w5 : World} {v : Value} {l : List Rc} (h3 : RectsAt w3 v l) (h5 : RectsAt w5 v l) {k : Nat} (hk : w3.heap.size ≤ k) (u : Value) : RectsAt (w5.setCell ⟨k, 0, none⟩ u) v l := by
  obtain ⟨p, cap, rfl, hm, hcp, h⟩ := h5
  refine ⟨p, cap, rfl, hm, hcp, fun i hi => ?_⟩
  obtain ⟨b', off, rfl, hlt, hc⟩ := h i hi
  obtain ⟨p3, cap3, e3, _, _, h3'⟩ := h3
  obtain ⟨b3, off3, e4, hlt3, _⟩ := h3' i hi
  subst e4
  simp only [Value.slice.injEq, Option.some.injEq, Addr.mk.injEq] at e3
  have hne : b' < k := by omega
  have key : ∀ o, (w5.setCell ⟨k, 0, none⟩ u).cell? ⟨b', o, none⟩ = w5.cell? ⟨b', o, none⟩ := fun o => World.cell?_setCell_other _ _ _ _ (by intro e; simp only [Addr.mk.injEq] at e; omega)
  exact ⟨b', off, rfl, by simpa using hlt, by simp only [RcAt, key]; exact hc⟩
/-- Behind the third statement: two lists without common squares. -/
structure M3 (W : World) (ka kb : Nat) (a b : List Rc) (va vb : Value) (wx : World) : Prop where
  xa : BoxAt wx ka #[va] 25
  xb : BoxAt wx kb #[vb] 25
  ra : RectsAt wx va a
  rb : RectsAt wx vb b
  bw : Below W.heap.size W wx
  gb : Good 8 b
  dis : ∀ x y, insideB a x y = true → insideB b x y = true → False

set_option maxHeartbeats 16000000 in
set_option maxRecDepth 100000 in
theorem moves_law (v : Value) (n : Nat) (g0 : Nat → Int) (a1 : Int) (w1 : (Lit.int .u8 a1).wf = true) (a2 : Int) (w2 : (Lit.int .u8 a2).wf = true) (W : World) (hI : IntsAt .i64 W v n g0) (hcap : CapAt v) :
    Calls Try.prog 5 #[v, .int .u8 a1, .int .u8 a2] W fun e w' => e = .returned (.bool true) ∧ Below W.heap.size W w' := by
  have hNew := new_any v n g0 W hI hcap
  clear hI hcap
  have ha1 := u8_range w1
  have ha2 := u8_range w2
  clear w1 w2
  go_enter Try.func5, Try.ntmps5
  go_wp2_with fail
  refine hNew.mono ?_
  rintro e w1 ⟨rfl, hb1, ht1, hz⟩
  have hRg := region_any w1 W.heap.size ht1 8 (by omega) (by omega) 3 (by omega)
  clear hNew ht1
  go_wp2_with fail
  refine hRg.mono ?_
  rintro e w2 ⟨va, a, rfl, hD⟩
  have GA : Hid (Good 8 a) := drawn_good (n := 8) hD (by decide)
  have RA0 : Hid (RectsAt w2 va a) := hD.at_
  have OW : Hid (∀ k, va.ownBlock = some k → W.heap.size < k) := Lib.hid fun k hk => by have := hD.new k hk; have := hb1.size; have := hz; omega
  have BW0 : Hid (Below W.heap.size W w2) := by
    have h1 := hD.gr
    exact ⟨h1.os.trans hb1.os, h1.tape.trans hb1.tape, h1.output.trans hb1.output, Nat.le_trans hb1.size h1.size, fun k hk => (h1.block k (by have := hb1.size; omega) (by simp; omega)).trans (hb1.block k hk)⟩
  have hT2 := hD.tape
  have htb := hD.tape.lt
  clear hRg hD hb1 hz
  obtain ⟨p_a, c_a, rfl⟩ := RA0.out.shape
  go_wp2_with fail
  have X0 := Lib.hid (BoxAt.new w2 #[.slice p_a a.length c_a] 25)
  have R0 := Lib.hid (RA0.out.below (show Below w2.heap.size w2 (w2.alloc (.cells #[.slice p_a a.length c_a] 25)) from (Below.refl _ _).alloc (Nat.le_refl _) _))
  have BW1 := Lib.hid (below_step BW0.out (show Below w2.heap.size w2 (w2.alloc (.cells #[.slice p_a a.length c_a] 25)) from (Below.refl _ _).alloc (Nat.le_refl _) _))
  have T0 := Lib.hid (hT2.alloc (.cells #[.slice p_a a.length c_a] 25))
  clear hT2 RA0 BW0
  generalize w2.alloc (.cells #[.slice p_a a.length c_a] 25) = w3 at *
  have HRg := Lib.hid (fun (w' : World) (h : Below w3.heap.size w3 w') => show Calls Try.prog 7 #[.pointer (some ⟨W.heap.size, 0, none⟩), .int .i64 8, .int .i64 2] w' fun e w'' => ∃ v l, e = .returned (.agg #[v]) ∧ Drawn w' w'' W.heap.size 8 2 v l from region_any w' W.heap.size (T0.out.grown (gr_low (row := none) h (Nat.le_refl _)) (by simp)) 8 (by omega) (by omega) 2 (by omega))
  have KS := Lib.hid (fun (w' : World) (h : Below w3.heap.size w3 w') => (X0.out.below h).cell (i := 0) rfl)
  obtain ⟨na, hna⟩ : ∃ n, n = a.length := ⟨_, rfl⟩
  rw [← hna] at X0 R0 KS OW
  have NA := Lib.hid hna
  clear hna
  go_cut [9, 10] from 33 (fun p e wx => ∃ (b : List Rc) (vb : Value) (kb : Nat), p = .pointer (some ⟨kb, 0, none⟩) ∧ e = .int .i64 0 ∧ M3 W w2.heap.size kb a b (.slice p_a na c_a) vb wx)
  case first =>
    have h23 := X0.out.lt
    refine wp_region_noPanic ?_
    go_region_held3 (fun w' => w'.cell? ⟨w2.heap.size, 0, none⟩ = some (.slice p_a na c_a)) (first | exact KS.out _ (by first | assumption | exact Below.refl _ _ | exact Below.drew (Below.refl _ _) | exact Below.drew (by assumption) | exact (Below.refl _ _).alloc (Nat.le_refl _) _ | exact Below.drew ((Below.refl _ _).alloc (Nat.le_refl _) _)) | exact KT.out _ (by first | assumption | exact Below.refl _ _ | exact Below.drew (Below.refl _ _) | exact Below.drew (by assumption) | exact (Below.refl _ _).alloc (Nat.le_refl _) _ | exact Below.drew ((Below.refl _ _).alloc (Nat.le_refl _) _)) | exact KV.out _ ((Below.refl _ _).alloc (Nat.le_refl _) _) | exact KU.out _ (by assumption) _ _ (by first | assumption | omega) | fail) (first
      | (go_at_call 7; (with_reducible refine (HRg.out _ (by first | assumption | exact Below.refl _ _ | exact Below.drew (Below.refl _ _) | exact Below.drew (by assumption) | exact (Below.refl _ _).alloc (Nat.le_refl _) _ | exact Below.drew ((Below.refl _ _).alloc (Nat.le_refl _) _))).mono ?_); rintro e w4 ⟨vm, m, rfl, hE⟩; have hQ := after_region (by first | assumption | exact Below.refl _ _ | exact Below.drew (Below.refl _ _) | exact Below.drew (by assumption) | exact (Below.refl _ _).alloc (Nat.le_refl _) _ | exact Below.drew ((Below.refl _ _).alloc (Nat.le_refl _) _)) hE X0.out htb R0.out OW.out; have GM := Lib.hid (drawn_good (n := 8) hE (by decide)); have RM := Lib.hid hE.at_; have XA4 := Lib.hid hQ.1; have RA4 := Lib.hid hQ.2.1; have BW4 := Lib.hid (bw_gr BW1.out hQ.2.2); have KT := Lib.hid (fun (w' : World) (h : Below w4.heap.size w4 w') => (XA4.out.below h).cell (i := 0) rfl); have h24 := XA4.out.lt; (try (have zA := Lib.hid (show BoxAt w4 w3.heap.size #[.slice none 0 0] 25 from ((BoxAt.new w3 #[.slice none 0 0] 25).below (Below.drew (Below.refl _ _))).but hE.gr (by simp; omega)))); clear hE hQ; obtain ⟨p_m, c_m, rfl⟩ := RM.out.shape)
      | (go_at_call 15; (with_reducible refine (refWithout_any _ _ m a _ (RM.out.below (by first | assumption | exact Below.refl _ _ | exact Below.drew (Below.refl _ _) | exact Below.drew (by assumption) | exact (Below.refl _ _).alloc (Nat.le_refl _) _ | exact Below.drew ((Below.refl _ _).alloc (Nat.le_refl _) _))) (RA4.out.below (by first | assumption | exact Below.refl _ _ | exact Below.drew (Below.refl _ _) | exact Below.drew (by assumption) | exact (Below.refl _ _).alloc (Nat.le_refl _) _ | exact Below.drew ((Below.refl _ _).alloc (Nat.le_refl _) _)))).mono ?_); rintro e w5 ⟨⟨vb, b, c, rfl, hr, hv, hq⟩, hb⟩; obtain ⟨p_b, c_b, rfl⟩ := hr.shape; have z1 := (BoxAt.new w5 #[.slice none 0 0] 25).free 0; have z2 := (BoxAt.new w5 #[.slice none 0 0] 25).cell (i := 0) rfl; have kb5 : Below w4.heap.size w4 w5 := below_step (by first | assumption | exact Below.refl _ _ | exact Below.drew (Below.refl _ _) | exact Below.drew (by assumption) | exact (Below.refl _ _).alloc (Nat.le_refl _) _ | exact Below.drew ((Below.refl _ _).alloc (Nat.le_refl _) _)) hb; (try (have zA5 := zA.out.below kb5; have y1 := zA5.free 0; have y2 := zA5.cell (i := 0) rfl; clear zA5)); (try (have zB := Lib.hid (show BoxAt w5 w4.heap.size #[.slice none 0 0] 25 from ((BoxAt.new w4 #[.slice none 0 0] 25).below (Below.drew (Below.refl _ _))).below hb); have y1 := zB.out.free 0; have y2 := zB.out.cell (i := 0) rfl)); (try (have zB := Lib.hid (show BoxAt w5 w4.heap.size #[.slice none 0 0] 25 from ((BoxAt.new w4 #[.slice none 0 0] 25)).below hb); have y1 := zB.out.free 0; have y2 := zB.out.cell (i := 0) rfl)); have KV := Lib.hid (fun (w' : World) (h : Below w5.heap.size w5 w') => (XA4.out.below (below_step kb5 h)).cell (i := 0) rfl); have KU := Lib.hid (fun (w' : World) (h : Below w4.heap.size w4 w') (k : Nat) (u : Value) (hk : w2.heap.size ≠ k) => ((XA4.out.below h).other (b' := k) (j := 0) (by omega) u).cell (i := 0) rfl))
      | fail)
    all_goals obtain ⟨rfl, gb, ib⟩ := comb_good rfl (by decide) GM.out GA.out hq
    all_goals have HD := Lib.hid (fun x y (h1 : insideB a x y = true) (h2 : insideB b x y = true) => (show False by rw [ib, h1] at h2; simp at h2))
    all_goals refine NoPanic.normal ?_
    all_goals go_wp2
    all_goals go_meet
    all_goals first
      | exact ⟨b, _, w5.heap.size, rfl, rfl, ⟨XA4.out.below (kb5.alloc kb5.size _), BoxAt.new w5 _ _, RA4.out.below (kb5.alloc kb5.size _), hr.below ((Below.refl _ _).alloc (Nat.le_refl _) _), below_step BW4.out (kb5.alloc kb5.size _), gb, HD.out⟩⟩
      | exact ⟨b, _, w4.heap.size, rfl, rfl, ⟨XA4.out.below (kb5.setCell (Nat.le_refl _) _), zB.out.set 0 _, RA4.out.below (kb5.setCell (Nat.le_refl _) _), hr.set (fun k hk => by have := hv k hk; simp at this; omega) 0 _, below_step BW4.out (kb5.setCell (Nat.le_refl _) _), gb, HD.out⟩⟩
      | exact ⟨b, _, w3.heap.size, rfl, rfl, ⟨(XA4.out.below kb5).other (by omega) _, (zA.out.below kb5).set 0 _, R0.out.past (RA4.out.below kb5) (Nat.le_refl _) _, hr.set (fun k hk => by have := hv k hk; have := zA.out.lt; omega) 0 _, (below_step BW4.out kb5).setCell BW1.out.size _, gb, HD.out⟩⟩
  case rest =>
    obtain ⟨b, vb, kb, rfl, rfl, hM⟩ := hcut
    obtain ⟨p_b, c_b, rfl⟩ := hM.rb.shape
    obtain ⟨nb, hnb⟩ : ∃ n, n = b.length := ⟨_, rfl⟩
    rw [← hnb] at hM
    clear hnb
    have GB := Lib.hid hM.gb
    have DIS := Lib.hid hM.dis
    have X_a := Lib.hid hM.xa
    have R_a := Lib.hid hM.ra
    have X_b := Lib.hid hM.xb
    have R_b := Lib.hid hM.rb
    have BW := Lib.hid hM.bw
    have x_a := X_a.out.cell (i := 0) rfl
    clear hM KS HRg R0 X0 T0 BW1 OW NA
    go_wp2_with fail
    generalize hx : a1 % 50 = x at *
    generalize hy : a2 % 50 = y at *
    have hx0 : 0 ≤ x ∧ x ≤ 49 := by omega
    have hy0 : 0 ≤ y ∧ y ≤ 49 := by omega
    clear hx hy
    refine (move_ok _ a x y _ R_a.out GA.out.valid (by omega) (by omega) (fun r hr => by have := good_box GA.out r hr; omega)).mono ?_
    rintro e v_m_ ⟨⟨v_m, m, e_m, rfl, hr, _, hq, rfl⟩, hb⟩
    obtain ⟨p_m, c_m, rfl⟩ := hr.shape
    have HM := Lib.hid hq
    have VM := Lib.hid (show ValidP m by rw [hq]; exact valid_move GA.out (by decide) (by omega) (by omega))
    generalize hl : m.length = nm at *
    clear hq hl
    have bJ : Below v_m_.heap.size v_m_ (v_m_.alloc (.cells #[.slice p_m nm c_m] 25)) := (Below.refl _ _).alloc (Nat.le_refl _) _
    have bIJ := below_step hb bJ
    have Y_a := Lib.hid (X_a.out.below bIJ)
    have Q_a := Lib.hid (R_a.out.below bIJ)
    clear X_a R_a
    have X_a := Lib.hid Y_a.out
    have R_a := Lib.hid Q_a.out
    clear Y_a Q_a
    have Y_b := Lib.hid (X_b.out.below bIJ)
    have Q_b := Lib.hid (R_b.out.below bIJ)
    clear X_b R_b
    have X_b := Lib.hid Y_b.out
    have R_b := Lib.hid Q_b.out
    clear Y_b Q_b
    have BW2 := Lib.hid (below_step BW.out bIJ)
    clear BW
    have BW := Lib.hid BW2.out
    clear BW2
    have X_m := Lib.hid (BoxAt.new v_m_ #[.slice p_m nm c_m] 25)
    have R_m := Lib.hid (hr.below bJ)
    clear hr hb bJ bIJ x_a
    have x_b := X_b.out.cell (i := 0) rfl
    go_wp2_with fail
    generalize v_m_.alloc (.cells #[.slice p_m nm c_m] 25) = w_m at *
    refine (move_ok _ b x y _ R_b.out GB.out.valid (by omega) (by omega) (fun r hr => by have := good_box GB.out r hr; omega)).mono ?_
    rintro e v_n_ ⟨⟨v_n, n, e_n, rfl, hr, _, hq, rfl⟩, hb⟩
    obtain ⟨p_n, c_n, rfl⟩ := hr.shape
    have HN := Lib.hid hq
    have VN := Lib.hid (show ValidP n by rw [hq]; exact valid_move GB.out (by decide) (by omega) (by omega))
    generalize hl : n.length = nn at *
    clear hq hl
    have bJ : Below v_n_.heap.size v_n_ (v_n_.alloc (.cells #[.slice p_n nn c_n] 25)) := (Below.refl _ _).alloc (Nat.le_refl _) _
    have bIJ := below_step hb bJ
    have Y_a := Lib.hid (X_a.out.below bIJ)
    have Q_a := Lib.hid (R_a.out.below bIJ)
    clear X_a R_a
    have X_a := Lib.hid Y_a.out
    have R_a := Lib.hid Q_a.out
    clear Y_a Q_a
    have Y_b := Lib.hid (X_b.out.below bIJ)
    have Q_b := Lib.hid (R_b.out.below bIJ)
    clear X_b R_b
    have X_b := Lib.hid Y_b.out
    have R_b := Lib.hid Q_b.out
    clear Y_b Q_b
    have Y_m := Lib.hid (X_m.out.below bIJ)
    have Q_m := Lib.hid (R_m.out.below bIJ)
    clear X_m R_m
    have X_m := Lib.hid Y_m.out
    have R_m := Lib.hid Q_m.out
    clear Y_m Q_m
    have BW2 := Lib.hid (below_step BW.out bIJ)
    clear BW
    have BW := Lib.hid BW2.out
    clear BW2
    have X_n := Lib.hid (BoxAt.new v_n_ #[.slice p_n nn c_n] 25)
    have R_n := Lib.hid (hr.below bJ)
    clear hr hb bJ bIJ x_b
    have x_m := X_m.out.cell (i := 0) rfl
    go_wp2_with fail
    generalize v_n_.alloc (.cells #[.slice p_n nn c_n] 25) = w_n at *
    refine (move_ok _ m (-x) (-y) _ R_m.out VM.out (by omega) (by omega) (by rw [HM.out]; intro r hr; obtain ⟨r0, hr0, rfl⟩ := List.mem_map.1 hr; have := good_box GA.out r0 hr0; simp only [moveR]; omega)).mono ?_
    rintro e v_k_ ⟨⟨v_k, k, e_k, rfl, hr, _, hq, rfl⟩, hb⟩
    obtain ⟨p_k, c_k, rfl⟩ := hr.shape
    have HK := Lib.hid (show k = a by rw [hq, HM.out]; exact move_back x y a)
    generalize hl : k.length = nk at *
    clear hq hl
    have bJ : Below v_k_.heap.size v_k_ (v_k_.alloc (.cells #[.slice p_k nk c_k] 25)) := (Below.refl _ _).alloc (Nat.le_refl _) _
    have bIJ := below_step hb bJ
    have Y_a := Lib.hid (X_a.out.below bIJ)
    have Q_a := Lib.hid (R_a.out.below bIJ)
    clear X_a R_a
    have X_a := Lib.hid Y_a.out
    have R_a := Lib.hid Q_a.out
    clear Y_a Q_a
    have Y_b := Lib.hid (X_b.out.below bIJ)
    have Q_b := Lib.hid (R_b.out.below bIJ)
    clear X_b R_b
    have X_b := Lib.hid Y_b.out
    have R_b := Lib.hid Q_b.out
    clear Y_b Q_b
    have Y_m := Lib.hid (X_m.out.below bIJ)
    have Q_m := Lib.hid (R_m.out.below bIJ)
    clear X_m R_m
    have X_m := Lib.hid Y_m.out
    have R_m := Lib.hid Q_m.out
    clear Y_m Q_m
    have Y_n := Lib.hid (X_n.out.below bIJ)
    have Q_n := Lib.hid (R_n.out.below bIJ)
    clear X_n R_n
    have X_n := Lib.hid Y_n.out
    have R_n := Lib.hid Q_n.out
    clear Y_n Q_n
    have BW2 := Lib.hid (below_step BW.out bIJ)
    clear BW
    have BW := Lib.hid BW2.out
    clear BW2
    have X_k := Lib.hid (BoxAt.new v_k_ #[.slice p_k nk c_k] 25)
    have R_k := Lib.hid (hr.below bJ)
    clear hr hb bJ bIJ x_m
    have x_a := X_a.out.cell (i := 0) rfl
    go_wp2_with fail
    generalize v_k_.alloc (.cells #[.slice p_k nk c_k] 25) = w_k at *
    refine (parts_any _ a _ R_a.out).mono ?_
    rintro e w_P ⟨⟨vP, psP, cP, rfl, hp, hc⟩, hb⟩
    obtain ⟨hAll, rfl⟩ : All2 IsPart (groupsL a a.length).2 psP ∧ cP = 0 := by
      rcases hc with ⟨h1, _⟩ | ⟨_, h1, h2⟩
      · exact absurd GA.out.valid h1
      · exact ⟨h1, h2⟩
    obtain ⟨ppP, ccP, rfl⟩ := hp.1.shape
    have AP := Lib.hid hAll
    have Y_a := Lib.hid (X_a.out.below hb)
    have Q_a := Lib.hid (R_a.out.below hb)
    clear X_a R_a
    have X_a := Lib.hid Y_a.out
    have R_a := Lib.hid Q_a.out
    clear Y_a Q_a
    have Y_b := Lib.hid (X_b.out.below hb)
    have Q_b := Lib.hid (R_b.out.below hb)
    clear X_b R_b
    have X_b := Lib.hid Y_b.out
    have R_b := Lib.hid Q_b.out
    clear Y_b Q_b
    have Y_m := Lib.hid (X_m.out.below hb)
    have Q_m := Lib.hid (R_m.out.below hb)
    clear X_m R_m
    have X_m := Lib.hid Y_m.out
    have R_m := Lib.hid Q_m.out
    clear Y_m Q_m
    have Y_n := Lib.hid (X_n.out.below hb)
    have Q_n := Lib.hid (R_n.out.below hb)
    clear X_n R_n
    have X_n := Lib.hid Y_n.out
    have R_n := Lib.hid Q_n.out
    clear Y_n Q_n
    have Y_k := Lib.hid (X_k.out.below hb)
    have Q_k := Lib.hid (R_k.out.below hb)
    clear X_k R_k
    have X_k := Lib.hid Y_k.out
    have R_k := Lib.hid Q_k.out
    clear Y_k Q_k
    have BW2 := Lib.hid (below_step BW.out hb)
    clear BW
    have BW := Lib.hid BW2.out
    clear BW2
    clear hp hc hAll hb x_a
    have x_m := X_m.out.cell (i := 0) rfl
    go_wp2_with fail
    refine (parts_any _ m _ R_m.out).mono ?_
    rintro e w_Q ⟨⟨vQ, psQ, cQ, rfl, hp, hc⟩, hb⟩
    obtain ⟨hAll, rfl⟩ : All2 IsPart (groupsL m m.length).2 psQ ∧ cQ = 0 := by
      rcases hc with ⟨h1, _⟩ | ⟨_, h1, h2⟩
      · exact absurd VM.out h1
      · exact ⟨h1, h2⟩
    obtain ⟨ppQ, ccQ, rfl⟩ := hp.1.shape
    have AQ := Lib.hid hAll
    have Y_a := Lib.hid (X_a.out.below hb)
    have Q_a := Lib.hid (R_a.out.below hb)
    clear X_a R_a
    have X_a := Lib.hid Y_a.out
    have R_a := Lib.hid Q_a.out
    clear Y_a Q_a
    have Y_b := Lib.hid (X_b.out.below hb)
    have Q_b := Lib.hid (R_b.out.below hb)
    clear X_b R_b
    have X_b := Lib.hid Y_b.out
    have R_b := Lib.hid Q_b.out
    clear Y_b Q_b
    have Y_m := Lib.hid (X_m.out.below hb)
    have Q_m := Lib.hid (R_m.out.below hb)
    clear X_m R_m
    have X_m := Lib.hid Y_m.out
    have R_m := Lib.hid Q_m.out
    clear Y_m Q_m
    have Y_n := Lib.hid (X_n.out.below hb)
    have Q_n := Lib.hid (R_n.out.below hb)
    clear X_n R_n
    have X_n := Lib.hid Y_n.out
    have R_n := Lib.hid Q_n.out
    clear Y_n Q_n
    have Y_k := Lib.hid (X_k.out.below hb)
    have Q_k := Lib.hid (R_k.out.below hb)
    clear X_k R_k
    have X_k := Lib.hid Y_k.out
    have R_k := Lib.hid Q_k.out
    clear Y_k Q_k
    have BW2 := Lib.hid (below_step BW.out hb)
    clear BW
    have BW := Lib.hid BW2.out
    clear BW2
    clear hp hc hAll hb x_m
    have x_a := X_a.out.cell (i := 0) rfl
    have x_b := X_b.out.cell (i := 0) rfl
    go_wp2_with fail
    have HLen := Lib.hid (parts_len x y a AP.out (by have := AQ.out; rw [HM.out] at this; exact this))
    refine (touch_any _ _ a b _ R_a.out R_b.out GA.out.valid GB.out.valid (com_zero DIS.out)).mono ?_
    rintro e w_t0 ⟨rfl, hb⟩
    have Y_a := Lib.hid (X_a.out.below hb)
    have Q_a := Lib.hid (R_a.out.below hb)
    clear X_a R_a
    have X_a := Lib.hid Y_a.out
    have R_a := Lib.hid Q_a.out
    clear Y_a Q_a
    have Y_b := Lib.hid (X_b.out.below hb)
    have Q_b := Lib.hid (R_b.out.below hb)
    clear X_b R_b
    have X_b := Lib.hid Y_b.out
    have R_b := Lib.hid Q_b.out
    clear Y_b Q_b
    have Y_m := Lib.hid (X_m.out.below hb)
    have Q_m := Lib.hid (R_m.out.below hb)
    clear X_m R_m
    have X_m := Lib.hid Y_m.out
    have R_m := Lib.hid Q_m.out
    clear Y_m Q_m
    have Y_n := Lib.hid (X_n.out.below hb)
    have Q_n := Lib.hid (R_n.out.below hb)
    clear X_n R_n
    have X_n := Lib.hid Y_n.out
    have R_n := Lib.hid Q_n.out
    clear Y_n Q_n
    have Y_k := Lib.hid (X_k.out.below hb)
    have Q_k := Lib.hid (R_k.out.below hb)
    clear X_k R_k
    have X_k := Lib.hid Y_k.out
    have R_k := Lib.hid Q_k.out
    clear Y_k Q_k
    have BW2 := Lib.hid (below_step BW.out hb)
    clear BW
    have BW := Lib.hid BW2.out
    clear BW2
    clear hb x_a x_b
    have x_m := X_m.out.cell (i := 0) rfl
    have x_n := X_n.out.cell (i := 0) rfl
    go_wp2_with fail
    refine (touch_any _ _ m n _ R_m.out R_n.out VM.out VN.out (by rw [HM.out, HN.out]; exact com_move x y DIS.out)).mono ?_
    rintro e w_t1 ⟨rfl, hb⟩
    rw [show touchL m n = touchL a b from (by rw [HM.out, HN.out]; exact touch_move x y a b)]
    have Y_a := Lib.hid (X_a.out.below hb)
    have Q_a := Lib.hid (R_a.out.below hb)
    clear X_a R_a
    have X_a := Lib.hid Y_a.out
    have R_a := Lib.hid Q_a.out
    clear Y_a Q_a
    have Y_b := Lib.hid (X_b.out.below hb)
    have Q_b := Lib.hid (R_b.out.below hb)
    clear X_b R_b
    have X_b := Lib.hid Y_b.out
    have R_b := Lib.hid Q_b.out
    clear Y_b Q_b
    have Y_m := Lib.hid (X_m.out.below hb)
    have Q_m := Lib.hid (R_m.out.below hb)
    clear X_m R_m
    have X_m := Lib.hid Y_m.out
    have R_m := Lib.hid Q_m.out
    clear Y_m Q_m
    have Y_n := Lib.hid (X_n.out.below hb)
    have Q_n := Lib.hid (R_n.out.below hb)
    clear X_n R_n
    have X_n := Lib.hid Y_n.out
    have R_n := Lib.hid Q_n.out
    clear Y_n Q_n
    have Y_k := Lib.hid (X_k.out.below hb)
    have Q_k := Lib.hid (R_k.out.below hb)
    clear X_k R_k
    have X_k := Lib.hid Y_k.out
    have R_k := Lib.hid Q_k.out
    clear Y_k Q_k
    have BW2 := Lib.hid (below_step BW.out hb)
    clear BW
    have BW := Lib.hid BW2.out
    clear BW2
    clear hb x_m x_n
    have x_n := X_n.out.cell (i := 0) rfl
    have x_m := X_m.out.cell (i := 0) rfl
    go_wp2_with fail
    refine (touch_any _ _ n m _ R_n.out R_m.out VN.out VM.out (by rw [HM.out, HN.out]; exact com_move x y (fun u v h1 h2 => DIS.out u v h2 h1))).mono ?_
    rintro e w_t2 ⟨rfl, hb⟩
    rw [show touchL n m = touchL a b from (by rw [touch_symm, HM.out, HN.out]; exact touch_move x y a b)]
    have Y_a := Lib.hid (X_a.out.below hb)
    have Q_a := Lib.hid (R_a.out.below hb)
    clear X_a R_a
    have X_a := Lib.hid Y_a.out
    have R_a := Lib.hid Q_a.out
    clear Y_a Q_a
    have Y_b := Lib.hid (X_b.out.below hb)
    have Q_b := Lib.hid (R_b.out.below hb)
    clear X_b R_b
    have X_b := Lib.hid Y_b.out
    have R_b := Lib.hid Q_b.out
    clear Y_b Q_b
    have Y_m := Lib.hid (X_m.out.below hb)
    have Q_m := Lib.hid (R_m.out.below hb)
    clear X_m R_m
    have X_m := Lib.hid Y_m.out
    have R_m := Lib.hid Q_m.out
    clear Y_m Q_m
    have Y_n := Lib.hid (X_n.out.below hb)
    have Q_n := Lib.hid (R_n.out.below hb)
    clear X_n R_n
    have X_n := Lib.hid Y_n.out
    have R_n := Lib.hid Q_n.out
    clear Y_n Q_n
    have Y_k := Lib.hid (X_k.out.below hb)
    have Q_k := Lib.hid (R_k.out.below hb)
    clear X_k R_k
    have X_k := Lib.hid Y_k.out
    have R_k := Lib.hid Q_k.out
    clear Y_k Q_k
    have BW2 := Lib.hid (below_step BW.out hb)
    clear BW
    have BW := Lib.hid BW2.out
    clear BW2
    clear hb x_n x_m
    go_wp2
    have K1 := Lib.hid (fun (w' : World) (h : Below w_t2.heap.size w_t2 w') => refSameR_any _ _ k a w' (R_k.out.below h) (R_a.out.below h))
    have K2 := Lib.hid (fun (w' : World) (h : Below w_t2.heap.size w_t2 w') => refArea_any _ m w' (R_m.out.below h))
    have K3 := Lib.hid (fun (w' : World) (h : Below w_t2.heap.size w_t2 w') => refArea_any _ a w' (R_a.out.below h))
    have EA := Lib.hid (show areaL m = areaL a by rw [HM.out]; exact area_move x y a)
    have KS := Lib.hid (fun (w' : World) (h : Below w_t2.heap.size w_t2 w') => (⟨(X_a.out.below h).cell (i := 0) rfl, (X_m.out.below h).cell (i := 0) rfl, (X_k.out.below h).cell (i := 0) rfl, h⟩ : w'.cell? ⟨w2.heap.size, 0, none⟩ = some (.slice p_a na c_a) ∧ w'.cell? ⟨v_m_.heap.size, 0, none⟩ = some (.slice p_m nm c_m) ∧ w'.cell? ⟨v_k_.heap.size, 0, none⟩ = some (.slice p_k nk c_k) ∧ Below w_t2.heap.size w_t2 w'))
    have hlen := HLen.out
    clear DIS GB HN VN X_b R_b X_n R_n AP AQ HLen R_a R_m R_k X_a X_m X_k HM htb ha1 ha2 hx0 hy0
    refine wp_region_noPanic ?_
    go_region_held3 (fun w' => w'.cell? ⟨w2.heap.size, 0, none⟩ = some (.slice p_a na c_a) ∧ w'.cell? ⟨v_m_.heap.size, 0, none⟩ = some (.slice p_m nm c_m) ∧ w'.cell? ⟨v_k_.heap.size, 0, none⟩ = some (.slice p_k nk c_k) ∧ Below w_t2.heap.size w_t2 w') (first | exact KS.out _ (by first | assumption | exact Below.drew (by assumption) | exact Below.drew (Below.refl _ _) | exact Below.refl _ _) | fail) (first
      | (go_at_call 14; (with_reducible refine (K1.out _ (by first | assumption | exact Below.drew (by assumption) | exact Below.drew (Below.refl _ _) | exact Below.refl _ _)).mono ?_); rintro e w' ⟨hr, hb⟩; obtain rfl := hr.is_yes HK.out; clear hr; have kb : Below w_t2.heap.size w_t2 w' := below_step (by first | assumption | exact Below.drew (by assumption) | exact Below.drew (Below.refl _ _) | exact Below.refl _ _) hb; clear hb)
      | (go_at_call 19; (with_reducible refine (K2.out _ (by first | assumption | exact Below.drew (by assumption) | exact Below.drew (Below.refl _ _) | exact Below.refl _ _)).mono ?_); rintro e w' ⟨z, rfl, hz, hb⟩; obtain rfl := (hz.1 VM.out).trans EA.out; clear hz; have kb : Below w_t2.heap.size w_t2 w' := below_step (by first | assumption | exact Below.drew (by assumption) | exact Below.drew (Below.refl _ _) | exact Below.refl _ _) hb; clear hb)
      | (go_at_call 19; (with_reducible refine (K3.out _ (by first | assumption | exact Below.drew (by assumption) | exact Below.drew (Below.refl _ _) | exact Below.refl _ _)).mono ?_); rintro e w' ⟨z, rfl, hz, hb⟩; obtain rfl := hz.1 GA.out.valid; clear hz; have kb : Below w_t2.heap.size w_t2 w' := below_step (by first | assumption | exact Below.drew (by assumption) | exact Below.drew (Below.refl _ _) | exact Below.refl _ _) hb; clear hb)
      | (go_at_call 11; (with_reducible refine ((fun (_ : Below w_t2.heap.size w_t2 _) => awake6_any _) (by first | assumption | exact Below.drew (by assumption) | exact Below.drew (Below.refl _ _) | exact Below.refl _ _)).mono ?_); rintro e w' ⟨rfl, hb⟩; have kb : Below w_t2.heap.size w_t2 w' := below_step (by first | assumption | exact Below.drew (by assumption) | exact Below.drew (Below.refl _ _) | exact Below.refl _ _) hb; clear hb)
      | fail)
    all_goals refine NoPanic.normal ?_
    all_goals go_wp2
    all_goals go_ret
    all_goals exact ⟨rfl, below_step BW.out (by assumption)⟩
end Go.Proofs.Ytdpnkbbphfcngab
