/- For ShapeMoves: what moves with it; shape.Move where nothing leaves the grid; shape.Touch; moved lists. -/
import Derived.Test.YtdpnkbbphfcngabHF
import Derived.Test.YtdpnkbbphfcngabHP
import Derived.Test.YtdpnkbbphfcngabHQ
import Derived.Deep.RegionHeld3
import Derived.Test.YtdpnkbbphfcngabGMt
import Derived.Test.YtdpnkbbphfcngabHG
import Derived.Test.YtdpnkbbphfcngabHX
import Derived.Test.YtdpnkbbphfcngabGRA
namespace Go.Proofs.Ytdpnkbbphfcngab
open Go.RowKit Go.Shelf

theorem btw_move (dx dy : Int) (p q : Rc) : btw (moveR dx dy p) (moveR dx dy q) = btw p q := by
  have e1 : min (p.r + dx) (q.r + dx) - max (p.l + dx) (q.l + dx) = min p.r q.r - max p.l q.l := by omega
  have e2 : min (p.h + dy) (q.h + dy) - max (p.b + dy) (q.b + dy) = min p.h q.h - max p.b q.b := by omega
  simp only [btw, moveR, e1, e2]
theorem btw_symm (p q : Rc) : btw p q = btw q p := by
  have e1 : min p.r q.r - max p.l q.l = min q.r p.r - max q.l p.l := by omega
  have e2 : min p.h q.h - max p.b q.b = min q.h p.h - max q.b p.b := by omega
  simp only [btw, e1, e2]
theorem btw_nonneg (p q : Rc) : 0 ≤ btw p q := by
  unfold btw
  split
  · omega
  · split <;> omega

theorem get_map {M : Rc → Rc} {l : List Rc} {j : Nat} (hj : j < l.length) : (l.map M)[j]! = M l[j]! := by
  rw [getElem!_pos _ j (by rw [List.length_map]; exact hj), getElem!_pos l j hj, List.getElem_map]

theorem step_move (dx dy : Int) {l : List Rc} {p : Rc} {t : List Bool} {q : List Rc} {j : Nat} (hj : j < l.length) :
    stepJ (l.map (moveR dx dy)) (moveR dx dy p) (t, q.map (moveR dx dy)) j = ((stepJ l p (t, q) j).1, (stepJ l p (t, q) j).2.map (moveR dx dy)) := by
  unfold stepJ
  rw [get_map hj, btw_move]
  split <;> simp
theorem row_move (dx dy : Int) {l : List Rc} {p : Rc} {t : List Bool} {q : List Rc} : ∀ k, k ≤ l.length →
    rowJ (l.map (moveR dx dy)) (moveR dx dy p) (t, q.map (moveR dx dy)) k = ((rowJ l p (t, q) k).1, (rowJ l p (t, q) k).2.map (moveR dx dy))
  | 0, _ => rfl
  | k + 1, hk => by
    rw [rowJ_succ, rowJ_succ, row_move dx dy k (by omega), step_move dx dy (by omega)]
theorem bfs_move (dx dy : Int) {l : List Rc} : ∀ (f i : Nat) (t : List Bool) (q : List Rc),
    bfs (l.map (moveR dx dy)) f i (t, q.map (moveR dx dy)) = ((bfs l f i (t, q)).1, (bfs l f i (t, q)).2.map (moveR dx dy))
  | 0, _, _, _ => rfl
  | f + 1, i, t, q => by
    rw [bfs, bfs]
    simp only [List.length_map]
    by_cases h : i < q.length
    · rw [if_pos h, if_pos h, get_map h, row_move dx dy _ (Nat.le_refl _), bfs_move dx dy f (i + 1)]
    · rw [if_neg h, if_neg h]
theorem joined_move (dx dy : Int) {l : List Rc} {k : Nat} (hk : k < l.length) (t : List Bool) :
    joinedL (l.map (moveR dx dy)) k t = ((joinedL l k t).1, (joinedL l k t).2.map (moveR dx dy)) := by
  unfold joinedL
  rw [List.length_map, get_map hk, ← bfs_move]
  rfl
theorem groups_move (dx dy : Int) {l : List Rc} : ∀ k, k ≤ l.length →
    groupsL (l.map (moveR dx dy)) k = ((groupsL l k).1, (groupsL l k).2.map fun q => q.map (moveR dx dy))
  | 0, _ => by simp [groupsL]
  | k + 1, hk => by
    rw [groupsL, groupsL, groups_move dx dy k (by omega), joined_move dx dy (by omega)]
    dsimp only
    split <;> simp

/-- Along how many edges two lists touch. -/
def rowT (p : Rc) (b : List Rc) : Int := (b.map fun q => btw p q).sum
def touchL (a b : List Rc) : Int := (a.map fun p => rowT p b).sum
theorem rowT_move (dx dy : Int) (p : Rc) (b : List Rc) : rowT (moveR dx dy p) (b.map (moveR dx dy)) = rowT p b := by
  unfold rowT
  rw [List.map_map]
  congr 1
  exact List.map_congr_left fun q _ => btw_move dx dy p q
theorem touch_move (dx dy : Int) (a b : List Rc) : touchL (a.map (moveR dx dy)) (b.map (moveR dx dy)) = touchL a b := by
  unfold touchL
  rw [List.map_map]
  congr 1
  exact List.map_congr_left fun p _ => rowT_move dx dy p b
theorem sum_two (f g : Rc → Int) : ∀ a : List Rc, (a.map fun p => f p + g p).sum = (a.map f).sum + (a.map g).sum
  | [] => rfl
  | x :: a => by simp only [List.map_cons, List.sum_cons, sum_two f g a]; omega
theorem sum_swap (f : Rc → Rc → Int) (a : List Rc) : ∀ b : List Rc, (a.map fun p => (b.map fun q => f p q).sum).sum = (b.map fun q => (a.map fun p => f p q).sum).sum
  | [] => by
    simp only [List.map_nil, List.sum_nil]
    induction a with
    | nil => rfl
    | cons x a ih => simp only [List.map_cons, List.sum_cons, ih]; rfl
  | y :: b => by
    simp only [List.map_cons, List.sum_cons]
    rw [← sum_swap f a b, sum_two]
theorem touch_symm (a b : List Rc) : touchL a b = touchL b a := by
  unfold touchL rowT
  rw [sum_swap]
  congr 1
  refine List.map_congr_left fun q _ => ?_
  congr 1
  exact List.map_congr_left fun p _ => btw_symm p q
theorem rowT_take {p : Rc} {b : List Rc} {k : Nat} (hk : k < b.length) : rowT p (b.take (k + 1)) = rowT p (b.take k) + btw p b[k]! := by
  unfold rowT
  rw [List.take_succ_eq_append_getElem hk, List.map_append, List.sum_append, getElem!_pos b k hk]
  simp
theorem touchL_take {a b : List Rc} {k : Nat} (hk : k < a.length) : touchL (a.take (k + 1)) b = touchL (a.take k) b + rowT a[k]! b := by
  unfold touchL
  rw [List.take_succ_eq_append_getElem hk, List.map_append, List.sum_append, getElem!_pos a k hk]
  simp
theorem btw_le {p q : Rc} (hp : properR p) (hq : properR q) : btw p q ≤ 16384 := by
  unfold properR at hp hq
  unfold btw
  split
  · omega
  · split <;> omega
theorem rowT_le {p : Rc} (hp : properR p) : ∀ {b : List Rc}, (∀ q ∈ b, properR q) → 0 ≤ rowT p b ∧ rowT p b ≤ 16384 * b.length
  | [], _ => by simp [rowT]
  | q :: b, h => by
    have h1 := btw_le hp (h q (by simp))
    have h2 := btw_nonneg p q
    have h3 := rowT_le hp (b := b) fun r hr => h r (List.mem_cons_of_mem _ hr)
    simp only [rowT, List.map_cons, List.sum_cons, List.length_cons] at h3 ⊢
    omega
theorem touchL_le {b : List Rc} (hb : ∀ q ∈ b, properR q) (hl : b.length ≤ 120) : ∀ {a : List Rc}, (∀ p ∈ a, properR p) → 0 ≤ touchL a b ∧ touchL a b ≤ 1966080 * a.length
  | [], _ => by simp [touchL]
  | p :: a, h => by
    have h1 := rowT_le (h p (by simp)) hb
    have h3 := touchL_le hb hl (a := a) fun r hr => h r (List.mem_cons_of_mem _ hr)
    simp only [touchL, List.map_cons, List.sum_cons, List.length_cons] at h3 ⊢
    omega

set_option maxHeartbeats 4000000 in
set_option maxRecDepth 100000 in
theorem move_ok (v : Value) (l : List Rc) (dx dy : Int) (w : World) (h : RectsAt w v l) (hv : ValidP l) (hx : -16384 ≤ dx ∧ dx ≤ 16384) (hy : -16384 ≤ dy ∧ dy ≤ 16384) (hin : ∀ r ∈ l, 0 ≤ r.l + dx ∧ 0 ≤ r.b + dy ∧ r.r + dx ≤ 16384 ∧ r.h + dy ≤ 16384) :
    Calls Try.prog 16 #[.agg #[v], .int .i64 dx, .int .i64 dy] w fun e w' => RetR w.heap.size w' e (fun out c => out = l.map (moveR dx dy) ∧ c = 0) ∧ Below w.heap.size w w' := by
  obtain ⟨i0, hi, hz0, hz1, hz2⟩ := info_parts info_rect
  have HV := Lib.hid (fun (w' : World) (hb : Below w.heap.size w w') => valid_any v l w' (h.below hb))
  have HR := Lib.hid h
  obtain ⟨p, cap, rfl⟩ := h.shape
  have b2 : Below w.heap.size w ((w.alloc (.cells #[.slice p l.length cap] 25)).alloc (.cells #[.slice none 0 0] 25)) := ((Below.refl _ _).alloc (Nat.le_refl _) _).alloc (by simp) _
  have x1 : BoxAt ((w.alloc (.cells #[.slice p l.length cap] 25)).alloc (.cells #[.slice none 0 0] 25)) w.heap.size #[.slice p l.length cap] 25 := (BoxAt.new _ _ _).alloc _
  have x2 : BoxAt ((w.alloc (.cells #[.slice p l.length cap] 25)).alloc (.cells #[.slice none 0 0] 25)) (w.heap.size + 1) #[.slice none 0 0] 25 := by
    have := BoxAt.new (w.alloc (.cells #[.slice p l.length cap] 25)) #[.slice none 0 0] 25
    rwa [World.size_alloc] at this
  have B2 := Lib.hid b2
  have X1 := Lib.hid x1
  have X2 := Lib.hid x2
  clear b2 x1 x2 h
  obtain ⟨n, hn⟩ : ∃ n, n = l.length := ⟨_, rfl⟩
  rw [← hn] at HV HR B2 X1 X2 ⊢
  have N := Lib.hid hn
  have VV := Lib.hid hv
  have HIn := Lib.hid hin
  have hn120 : (n : Int) ≤ 120 := by have := hv.1; omega
  obtain ⟨hx1, hx2⟩ := hx
  obtain ⟨hy1, hy2⟩ := hy
  have HO1 := Lib.hid (fun (w' : World) => show Calls Try.prog 35 #[.int .i64 dx, .int .i64 (-16384), .int .i64 16384] w' fun e w2 => e = .returned (.bool false) ∧ w' = w2 from (outsideS_any dx (-16384) 16384 w').mono fun e w2 ⟨h1, h2⟩ => ⟨by rw [h1, decide_eq_false (by omega)], h2⟩)
  have HO2 := Lib.hid (fun (w' : World) => show Calls Try.prog 35 #[.int .i64 dy, .int .i64 (-16384), .int .i64 16384] w' fun e w2 => e = .returned (.bool false) ∧ w' = w2 from (outsideS_any dy (-16384) 16384 w').mono fun e w2 ⟨h1, h2⟩ => ⟨by rw [h1, decide_eq_false (by omega)], h2⟩)
  clear hn hv hin
  go_enter Try.func16, Try.ntmps16
  go_wp2_with fail
  refine Calls.mono (HV.out _ B2.out) ?_
  rintro e w1 ⟨hr, hb1⟩
  obtain rfl := hr.is_yes VV.out
  have B3 := Lib.hid (below_step B2.out hb1)
  have Y1 := X1.out.below hb1
  have Y2 := X2.out.below hb1
  have c1 := Y1.cell (i := 0) rfl
  have hs2 := Y2.lt
  have hb3 : Below w1.heap.size w1 (w1.alloc (.cells #[.slice none 0 0] 25)) := (Below.refl _ _).alloc (Nat.le_refl _) _
  have HST := Lib.hid (show MvAt w (w1.alloc (.cells #[.slice none 0 0] 25)) (.slice p n cap) (.slice none 0 0) w1.heap.size [] from
    ⟨Y1.below hb3, Y2.below hb3, BoxAt.new _ _ _, OwnAt.nil .., below_step B3.out hb3⟩)
  have c2 := (Y1.below hb3).cell (i := 0) rfl
  have hne : w.heap.size ≠ w1.heap.size := by omega
  clear hb1 hr hb3 Y1 Y2
  go_wp2_with (first
    | (go_at_call 35; (with_reducible refine (HO1.out _).mono ?_); rintro e w' ⟨rfl, rfl⟩)
    | (go_at_call 35; (with_reducible refine (HO2.out _).mono ?_); rintro e w' ⟨rfl, rfl⟩))
  go_loopw [26] (fun i wr => ∃ (k : Nat) (u : Value), k ≤ n ∧ i = .int .i64 k ∧ MvAt w wr (.slice p n cap) u w1.heap.size ((l.take k).map (moveR dx dy))) (fun i _ => n - (intOf i).toNat)
  case atStart => exact ⟨0, .slice none 0 0, Nat.zero_le _, rfl, HST.out⟩
  case round =>
    obtain ⟨k, u, hk, rfl, hst⟩ := hrel
    have xo := hst.xo.cell (i := 0) rfl
    have fo := hst.xo.free 0
    have hlo := hst.xo.lt
    by_cases hkn : k < n
    · have hkl : k < l.length := by rw [← N.out]; exact hkn
      have hkn' : (k : Int) < (n : Int) := by omega
      obtain ⟨p', cap', e0, _, _, hcell⟩ := HR.out.below hst.below
      simp only [Value.slice.injEq] at e0
      obtain ⟨e0, e0b, e0c⟩ := e0
      subst e0
      subst e0c
      clear e0b
      obtain ⟨b, off, rfl, hlt, hrc⟩ := hcell k hkl
      obtain ⟨c0, d1, d2, d3⟩ := hrc
      have n1 : b ≠ wr.heap.size := by omega
      have HE := Lib.hid (show (l.take (k + 1)).map (moveR dx dy) = (l.take k).map (moveR dx dy) ++ [moveR dx dy l[k]!] by
        rw [List.take_succ_eq_append_getElem hkl, List.map_append, getElem!_pos l k hkl]; rfl)
      have hmem : l[k]! ∈ l := by rw [getElem!_pos l k hkl]; exact List.getElem_mem _
      obtain ⟨g1, g2, g3, g4⟩ := HIn.out _ hmem
      have hpr := VV.out.2.1 _ hmem
      unfold properR at hpr
      obtain ⟨g5, g6, g7, g8, g9, g10⟩ := hpr
      have hlen : ((l.take k).map (moveR dx dy)).length = k := by rw [List.length_map, List.length_take]; omega
      have HST2 := Lib.hid hst
      obtain ⟨pu, cu, rfl⟩ := hst.own.shape
      rw [hlen] at xo HST2
      clear hst hcell hmem
      generalize l[k]! = r at *
      generalize hl0 : (l.take k).map (moveR dx dy) = l0 at *
      have bW : Below wr.heap.size wr ((wr.alloc (.cells #[.int .i64 r.l, .int .i64 r.b, .int .i64 r.r, .int .i64 r.h] 49)).alloc (.cells #[.int .i64 (r.l + dx), .int .i64 (r.b + dy), .int .i64 (r.r + dx), .int .i64 (r.h + dy)] 49)) := ((Below.refl _ _).alloc (Nat.le_refl _) _).alloc (by simp) _
      have xm : BoxAt ((wr.alloc (.cells #[.int .i64 r.l, .int .i64 r.b, .int .i64 r.r, .int .i64 r.h] 49)).alloc (.cells #[.int .i64 (r.l + dx), .int .i64 (r.b + dy), .int .i64 (r.r + dx), .int .i64 (r.h + dy)] 49)) (wr.heap.size + 1) #[.int .i64 (r.l + dx), .int .i64 (r.b + dy), .int .i64 (r.r + dx), .int .i64 (r.h + dy)] 49 := by
        have := BoxAt.new (wr.alloc (.cells #[.int .i64 r.l, .int .i64 r.b, .int .i64 r.r, .int .i64 r.h] 49)) #[.int .i64 (r.l + dx), .int .i64 (r.b + dy), .int .i64 (r.r + dx), .int .i64 (r.h + dy)] 49
        rwa [World.size_alloc] at this
      have XM := Lib.hid xm
      have BW := Lib.hid bW
      clear bW xm
      have hcl : clipR (moveR dx dy r) = moveR dx dy r := Rc.ext' (by simp only [clipR, moveR]; omega) (by simp only [clipR, moveR]; omega) (by simp only [clipR, moveR]; omega) (by simp only [clipR, moveR]; omega)
      have HCl := Lib.hid (fun (w' : World) => show Calls Try.prog 25 #[.agg #[.int .i64 (r.l + dx), .int .i64 (r.b + dy), .int .i64 (r.r + dx), .int .i64 (r.h + dy)]] w' fun e w2 => e = .returned (.agg #[.int .i64 (r.l + dx), .int .i64 (r.b + dy), .int .i64 (r.r + dx), .int .i64 (r.h + dy)]) ∧ Below w'.heap.size w' w2 from (clip_any (moveR dx dy r) w').mono fun e w2 ⟨h1, h2⟩ => ⟨by rw [h1, hcl]; rfl, h2⟩)
      clear hcl
      go_wp2
      generalize ((wr.alloc (.cells #[.int .i64 r.l, .int .i64 r.b, .int .i64 r.r, .int .i64 r.h] 49)).alloc (.cells #[.int .i64 (r.l + dx), .int .i64 (r.b + dy), .int .i64 (r.r + dx), .int .i64 (r.h + dy)] 49)) = wm at *
      have KS := Lib.hid (fun (w' : World) (h : Below wm.heap.size wm w') => (⟨(XM.out.below h).cell (i := 0) rfl, (XM.out.below h).cell (i := 1) rfl, (XM.out.below h).cell (i := 2) rfl, (XM.out.below h).cell (i := 3) rfl⟩ : w'.cell? ⟨wr.heap.size + 1, 0, none⟩ = some (.int .i64 (r.l + dx)) ∧ w'.cell? ⟨wr.heap.size + 1, 1, none⟩ = some (.int .i64 (r.b + dy)) ∧ w'.cell? ⟨wr.heap.size + 1, 2, none⟩ = some (.int .i64 (r.r + dx)) ∧ w'.cell? ⟨wr.heap.size + 1, 3, none⟩ = some (.int .i64 (r.h + dy))))
      refine wp_region_noPanic ?_
      go_region_held3 (fun w' => w'.cell? ⟨wr.heap.size + 1, 0, none⟩ = some (.int .i64 (r.l + dx)) ∧ w'.cell? ⟨wr.heap.size + 1, 1, none⟩ = some (.int .i64 (r.b + dy)) ∧ w'.cell? ⟨wr.heap.size + 1, 2, none⟩ = some (.int .i64 (r.r + dx)) ∧ w'.cell? ⟨wr.heap.size + 1, 3, none⟩ = some (.int .i64 (r.h + dy))) (exact KS.out _ (by first | assumption | exact Below.drew (by assumption) | exact Below.drew (Below.refl _ _))) (first
        | (go_at_call 25; (with_reducible refine Calls.mono (HCl.out _) ?_); rintro e w3 ⟨rfl, hb3⟩; have kb1 : Below wm.heap.size wm w3 := below_step (by first | exact Below.drew (Below.refl _ _)) hb3; clear hb3)
        | fail)
      refine NoPanic.normal ?_
      have hM := KS.out w3 kb1
      obtain ⟨m0, m1, m2, m3⟩ := hM
      have b3' := below_step BW.out kb1
      have hsz : wr.heap.size ≤ w3.heap.size := b3'.size
      have X3 := HST2.out.keep b3'
      have xo3 := X3.xo.cell (i := 0) rfl
      have fo3 := X3.xo.free 0
      have hb3 : Below wr.heap.size wr (w3.alloc (.cells #[.int .i64 (r.l + dx), .int .i64 (r.b + dy), .int .i64 (r.r + dx), .int .i64 (r.h + dy)] 49)) := b3'.alloc hsz _
      have H3 := Lib.hid (HST2.out.keep hb3)
      have hwr := HST2.out.xo.lt
      have hxs := H3.out.own
      unfold OwnAt at hxs
      rw [hlen] at hxs
      have HXS := Lib.hid hxs
      clear hb3 hxs X3 b3'
      go_wp2_with (first | (at_builtin; refine wpList_append_own _ rfl _ _ 23 rfl w1.heap.size 49 i0 _ 4 32 Try.underlying23 hi hz0 hz1 hz2 rfl (by decide) _ k _ rfl HXS.out ⟨w3.heap.size, 0, none⟩ 1 1 [.int .i64 (r.l + dx), .int .i64 (r.b + dy), .int .i64 (r.r + dx), .int .i64 (r.h + dy)] rfl rfl ?c1 ?c2 ?c3 ?c4 ?c5 ?_))
      case c1 => exact news_at (by simp)
      case c2 => exact List.all_eq_true.1 (by rfl)
      case c3 => unfold maxLen; omega
      case c4 => omega
      case c5 => simp; omega
      intro v' w4 hown1 hgrow _
      have HO2 := OwnAt.snoc (l := l0) (m := [moveR dx dy r]) (enc := encR) (n := 1) rfl (by rw [hlen]; exact hown1)
      have HN := Lib.hid (H3.out.next (by omega) HO2 hgrow)
      have hxo4 := H3.out.xo.grown (by decide) hgrow H3.out.own
      have xo4 := hxo4.cell (i := 0) rfl
      have fo4 := hxo4.free 0
      obtain ⟨p4, c4, rfl⟩ := own_shape hown1
      clear hown1 hgrow hxo4 HO2
      go_wp2
      go_roundw
      case rel => exact ⟨k + 1, _, by omega, by simp, by rw [HE.out]; exact HN.out⟩
      case measure => simp [intOf]; omega
    · obtain rfl : k = n := by omega
      have HST2 := Lib.hid hst
      have xr := hst.xr.cell (i := 0) rfl
      have fr := hst.xr.free 0
      have hfull : (l.take k).map (moveR dx dy) = l.map (moveR dx dy) := by rw [List.take_of_length_le (by rw [N.out]; exact Nat.le_refl _)]
      rw [hfull] at HST2
      obtain ⟨pu, cu, rfl⟩ := hst.own.shape
      rw [hfull] at xo HST2
      clear hst
      go_wp2
      refine bodyPost_ret (ret_re rfl rfl rfl (HST2.out.xr.set 0 _)) rfl ⟨⟨_, l.map (moveR dx dy), 0, rfl, ?_, (fun q hq => ?_), rfl, rfl⟩, HST2.out.below.setCell (by show w.heap.size ≤ w.heap.size + 1; omega) _⟩
      · have h1 := HST2.out.own.rects.set (b := w.heap.size + 1) (fun q hq => by have := ownsRow_ge HST2.out.own q hq; omega) 0 (.slice pu l.length cu)
        rw [List.length_map] at h1
        exact h1
      · have := ownsRow_ge HST2.out.own q (by rw [List.length_map]; exact hq); omega

theorem Sm.of {r : Rc} (h : properR r) : Sm r := by
  unfold properR at h
  unfold Sm
  omega

set_option maxHeartbeats 4000000 in
set_option maxRecDepth 100000 in
theorem touch_any (va vb : Value) (a b : List Rc) (w : World) (ha : RectsAt w va a) (hb : RectsAt w vb b) (hVa : ValidP a) (hVb : ValidP b) (hcom : comL a b = 0) :
    Calls Try.prog 18 #[.agg #[va], .agg #[vb]] w fun e w' => e = .returned (.tuple #[.int .i64 (touchL a b), .int .i64 0]) ∧ Below w.heap.size w w' := by
  have HT := Lib.hid (two_at w va vb)
  obtain ⟨pa, ca, rfl⟩ := ha.shape
  obtain ⟨pb, cb, rfl⟩ := hb.shape
  have hA2 : RectsAt ((w.alloc (.cells #[.slice pa a.length ca] 25)).alloc (.cells #[.slice pb b.length cb] 25)) (.slice pa a.length ca) a := ha.below HT.out.bw
  have hB2 : RectsAt ((w.alloc (.cells #[.slice pa a.length ca] 25)).alloc (.cells #[.slice pb b.length cb] 25)) (.slice pb b.length cb) b := hb.below HT.out.bw
  have HA := Lib.hid hA2
  have HB := Lib.hid hB2
  have VA := Lib.hid hVa
  have VB := Lib.hid hVb
  have CM := Lib.hid hcom
  clear hA2 hB2 ha hb hVa hVb hcom
  go_enter Try.func18, Try.ntmps18
  go_wp2_with fail
  generalize (w.alloc (.cells #[.slice pa a.length ca] 25)).alloc (.cells #[.slice pb b.length cb] 25) = w2 at *
  have KS := Lib.hid (fun (w' : World) (h : Below w2.heap.size w2 w') => (⟨(HT.out.x0.below h).cell (i := 0) rfl, (HT.out.x1.below h).cell (i := 0) rfl, h⟩ : w'.cell? ⟨w.heap.size, 0, none⟩ = some (.slice pa a.length ca) ∧ w'.cell? ⟨w.heap.size + 1, 0, none⟩ = some (.slice pb b.length cb) ∧ Below w2.heap.size w2 w'))
  have K1 := Lib.hid (fun (w' : World) (h : Below w2.heap.size w2 w') => valid_any _ _ w' (HA.out.below h))
  have K2 := Lib.hid (fun (w' : World) (h : Below w2.heap.size w2 w') => valid_any _ _ w' (HB.out.below h))
  have K3 := Lib.hid (fun (w' : World) (h : Below w2.heap.size w2 w') => (meets_yes _ _ _ _ w' (HA.out.below h) (HB.out.below h) VA.out VB.out).mono fun e w3 (h3 : e = .returned (.bool (decide (comL a b > 0))) ∧ _) => (⟨by rw [h3.1, CM.out]; rfl, h3.2⟩ : e = .returned (.bool false) ∧ Below w'.heap.size w' w3))
  obtain ⟨na, hna⟩ : ∃ n, n = a.length := ⟨_, rfl⟩
  obtain ⟨nb, hnb⟩ : ∃ n, n = b.length := ⟨_, rfl⟩
  rw [← hna] at KS K1 K3 HA HT
  rw [← hnb] at KS K2 K3 HB HT
  have NA := Lib.hid hna
  have NB := Lib.hid hnb
  have hna' : (na : Int) ≤ 120 := by have := VA.out.1; omega
  have hnb' : (nb : Int) ≤ 120 := by have := VB.out.1; omega
  rw [← hna, ← hnb]
  clear hna hnb
  obtain ⟨c0, c1, kb0⟩ := KS.out _ (Below.refl _ _)
  go_wp2_with (first
    | (go_at_call 34; (with_reducible refine (K1.out _ (by assumption)).mono ?_); rintro e w' ⟨hr, hb⟩; obtain rfl := hr.is_yes VA.out; have kb : Below w2.heap.size w2 w' := below_step (by assumption) hb; clear hb hr c0 c1; obtain ⟨c0, c1, _⟩ := KS.out _ kb)
    | (go_at_call 34; (with_reducible refine (K2.out _ (by assumption)).mono ?_); rintro e w' ⟨hr, hb⟩; obtain rfl := hr.is_yes VB.out; have kb : Below w2.heap.size w2 w' := below_step (by assumption) hb; clear hb hr c0 c1; obtain ⟨c0, c1, _⟩ := KS.out _ kb)
    | (go_at_call 37; (with_reducible refine (K3.out _ (by assumption)).mono ?_); rintro e w' ⟨rfl, hb⟩; have kb : Below w2.heap.size w2 w' := below_step (by assumption) hb; clear hb c0 c1; obtain ⟨c0, c1, _⟩ := KS.out _ kb))
  go_loopw [6, 27] (fun s i wr => ∃ k : Nat, k ≤ na ∧ i = .int .i64 k ∧ s = .int .i64 (touchL (a.take k) b) ∧ Below w2.heap.size w2 wr) (fun _ i _ => na - (intOf i).toNat)
  case atStart => exact ⟨0, Nat.zero_le _, rfl, rfl, by assumption⟩
  case round =>
    obtain ⟨k, hk, rfl, rfl, hb⟩ := hrel
    by_cases hkn : k < na
    · have hka : k < a.length := by rw [← NA.out]; exact hkn
      obtain ⟨pz, qz, e0, _, _, hcA⟩ := HA.out.below hb
      simp only [Value.slice.injEq] at e0
      obtain ⟨e0, e2, e1⟩ := e0
      subst e0
      subst e1
      clear e2
      obtain ⟨b1, off, rfl, hlt, c0, c1, c2, c3⟩ := hcA k hka
      have hkn' : (k : Int) < (na : Int) := by omega
      have HR := Lib.hid (VA.out.2.1 a[k]! (by rw [getElem!_pos a k hka]; exact List.getElem_mem _))
      have HTk := Lib.hid (touchL_take (b := b) hka)
      have HQ := Lib.hid (touchL_le (a := a.take k) (b := b) VB.out.2.1 VB.out.1 (fun q hq => VA.out.2.1 q (List.mem_of_mem_take hq)))
      have HLK := Lib.hid (show (a.take k).length ≤ 120 by rw [List.length_take]; omega)
      have HB1 := Lib.hid hb
      have x1 := ((HT.out.x1.below (hb.alloc hb.size (.cells #[.int .i64 a[k]!.l, .int .i64 a[k]!.b, .int .i64 a[k]!.r, .int .i64 a[k]!.h] 49)))).cell (i := 0) rfl
      have XP := Lib.hid (BoxAt.new wr #[.int .i64 a[k]!.l, .int .i64 a[k]!.b, .int .i64 a[k]!.r, .int .i64 a[k]!.h] 49)
      have BP := Lib.hid (hb.alloc hb.size (.cells #[.int .i64 a[k]!.l, .int .i64 a[k]!.b, .int .i64 a[k]!.r, .int .i64 a[k]!.h] 49))
      clear hcA hb
      generalize a[k]! = p at *
      generalize touchL (a.take k) b = s0 at *
      go_wp2_with fail
      generalize wr.alloc (.cells #[.int .i64 p.l, .int .i64 p.b, .int .i64 p.r, .int .i64 p.h] 49) = w3 at *
      clear c0 c1 c2 c3 x1
      go_loopw [6, 34] (fun s i wk => ∃ j : Nat, j ≤ nb ∧ i = .int .i64 j ∧ s = .int .i64 (s0 + rowT p (b.take j)) ∧ Below w3.heap.size w3 wk) (fun _ i _ => nb - (intOf i).toNat)
      case atStart => exact ⟨0, Nat.zero_le _, rfl, by simp [rowT], Below.refl _ _⟩
      case round =>
        obtain ⟨j, hj, rfl, rfl, hb⟩ := hrel
        by_cases hjn : j < nb
        · have hjb : j < b.length := by rw [← NB.out]; exact hjn
          obtain ⟨pz2, qz2, e0, _, _, hcB⟩ := HB.out.below (below_step BP.out hb)
          simp only [Value.slice.injEq] at e0
          obtain ⟨e0, e2, e1⟩ := e0
          subst e0
          subst e1
          clear e2
          obtain ⟨b2, off2, rfl, hlt3, c0, c1, c2, c3⟩ := hcB j hjb
          have hjn' : (j : Int) < (nb : Int) := by omega
          have HRq := Lib.hid (VB.out.2.1 b[j]! (by rw [getElem!_pos b j hjb]; exact List.getElem_mem _))
          have HT2 := Lib.hid (rowT_take (p := p) hjb)
          have h1 := rowT_le HR.out (b := b.take j) (fun q hq => VB.out.2.1 q (List.mem_of_mem_take hq))
          have h2 : (b.take j).length ≤ 120 := by rw [List.length_take]; omega
          have h3 := HQ.out
          have h4 := HLK.out
          have h5 := btw_le HR.out HRq.out
          have h6 := btw_nonneg p b[j]!
          have XP2 := Lib.hid (XP.out.below hb)
          have HB2 := Lib.hid hb
          clear hcB hb
          generalize b[j]! = q at *
          generalize rowT p (b.take j) = s1 at *
          have hw : wrap64 (s0 + s1 + btw p q) = s0 + s1 + btw p q := wrap_in (by omega) (by omega)
          clear h1 h2 h3 h4 h5 h6
          have HBt := Lib.hid (fun (w' : World) => btwS_any p q w' (Sm.of HR.out) (Sm.of HRq.out))
          have p0 := (XP2.out.alloc (.cells #[.int .i64 q.l, .int .i64 q.b, .int .i64 q.r, .int .i64 q.h] 49)).cell (i := 0) rfl
          have p1 := (XP2.out.alloc (.cells #[.int .i64 q.l, .int .i64 q.b, .int .i64 q.r, .int .i64 q.h] 49)).cell (i := 1) rfl
          have p2 := (XP2.out.alloc (.cells #[.int .i64 q.l, .int .i64 q.b, .int .i64 q.r, .int .i64 q.h] 49)).cell (i := 2) rfl
          have p3 := (XP2.out.alloc (.cells #[.int .i64 q.l, .int .i64 q.b, .int .i64 q.r, .int .i64 q.h] 49)).cell (i := 3) rfl
          go_wp2_with (first
            | (go_at_call 38; (with_reducible refine Calls.mono (HBt.out _) ?_); rintro e w4 ⟨rfl, hb1⟩)
            | fail)
          have hw4 : Below w3.heap.size w3 w4 := below_step (HB2.out.alloc HB2.out.size _) hb1
          rw [hw]
          go_roundw
          case rel => exact ⟨j + 1, by omega, by simp, by rw [HT2.out]; congr 1; omega, hw4⟩
          case measure => simp [intOf]; omega
        · obtain rfl : j = nb := by omega
          have C1 := Lib.hid (show rowT p (b.take j) = rowT p b by rw [List.take_of_length_le (by rw [← NB.out]; omega)])
          have HB2 := Lib.hid hb
          clear hb
          go_wp2
          go_roundw
          case rel => exact ⟨k + 1, by omega, by simp, by rw [HTk.out, C1.out], below_step BP.out HB2.out⟩
          case measure => simp [intOf]; omega
    · obtain rfl : k = na := by omega
      have C1 := Lib.hid (show touchL (a.take k) b = touchL a b by rw [List.take_of_length_le (by rw [← NA.out]; omega)])
      have HB1 := Lib.hid (below_step HT.out.bw hb)
      clear hb
      go_wp2
      refine bodyPost_ret (results_tmp2 rfl _ _ _) rfl ?_
      exact ⟨by rw [← C1.out]; rfl, HB1.out⟩

theorem valid_move {n : Nat} {l : List Rc} (h : Good n l) (hn : n ≤ 16000) {dx dy : Int} (hx : 0 ≤ dx ∧ dx ≤ 300) (hy : 0 ≤ dy ∧ dy ≤ 300) : ValidP (l.map (moveR dx dy)) := by
  refine ⟨by rw [List.length_map]; exact h.len, fun r hr => ?_, canonical_move dx dy h.can⟩
  obtain ⟨r0, hr0, rfl⟩ := List.mem_map.1 hr
  have := good_box h r0 hr0
  unfold properR
  simp only [moveR]
  omega
theorem move_back (dx dy : Int) (l : List Rc) : (l.map (moveR dx dy)).map (moveR (-dx) (-dy)) = l := by
  rw [List.map_map]
  conv => rhs; rw [← List.map_id l]
  refine List.map_congr_left fun r _ => ?_
  exact Rc.ext' (by simp only [moveR, Function.comp, id]; omega) (by simp only [moveR, Function.comp, id]; omega) (by simp only [moveR, Function.comp, id]; omega) (by simp only [moveR, Function.comp, id]; omega)
theorem area_move (dx dy : Int) (l : List Rc) : areaL (l.map (moveR dx dy)) = areaL l := by
  unfold areaL
  rw [List.map_map]
  congr 1
  refine List.map_congr_left fun r _ => ?_
  have e1 : r.r + dx - (r.l + dx) = r.r - r.l := by omega
  have e2 : r.h + dy - (r.b + dy) = r.h - r.b := by omega
  simp only [Function.comp, areaR, moveR, e1, e2]
theorem sum_zero (f : Rc → Int) : ∀ l : List Rc, (∀ p ∈ l, f p = 0) → (l.map f).sum = 0
  | [], _ => rfl
  | x :: l, h => by
    rw [List.map_cons, List.sum_cons, h x (by simp), sum_zero f l fun p hp => h p (List.mem_cons_of_mem _ hp)]
    rfl
theorem com_zero {a b : List Rc} (h : ∀ x y, insideB a x y = true → insideB b x y = true → False) : comL a b = 0 := by
  refine sum_zero _ a fun p hp => sum_zero _ b fun q hq => ?_
  unfold meetA
  by_cases h1 : max p.l q.l < min p.r q.r
  · by_cases h2 : max p.b q.b < min p.h q.h
    · exact (h (max p.l q.l) (max p.b q.b) (inside_iff.2 ⟨p, hp, insR_iff.2 (by omega)⟩) (inside_iff.2 ⟨q, hq, insR_iff.2 (by omega)⟩)).elim
    · rw [show max (min p.h q.h - max p.b q.b) 0 = 0 by omega, Int.mul_zero]
  · rw [show max (min p.r q.r - max p.l q.l) 0 = 0 by omega, Int.zero_mul]
theorem com_move {a b : List Rc} (dx dy : Int) (h : ∀ x y, insideB a x y = true → insideB b x y = true → False) : comL (a.map (moveR dx dy)) (b.map (moveR dx dy)) = 0 :=
  com_zero fun x y h1 h2 => by
    rw [inside_move] at h1 h2
    exact h _ _ h1 h2
theorem parts_len (dx dy : Int) (l : List Rc) {ps qs : List PV} (h1 : All2 IsPart (groupsL l l.length).2 ps) (h2 : All2 IsPart (groupsL (l.map (moveR dx dy)) (l.map (moveR dx dy)).length).2 qs) : ps.length = qs.length := by
  rw [← h1.length, ← h2.length, List.length_map, groups_move dx dy l.length (Nat.le_refl _), List.length_map]
end Go.Proofs.Ytdpnkbbphfcngab
