/- The reference's Move, where nothing leaves the grid. -/
import Derived.Test.YtdpnkbbphfcngabHP
import Derived.Test.YtdpnkbbphfcngabGRV
namespace Go.Proofs.Ytdpnkbbphfcngab
open Go.RowKit Go.Shelf

/-- What the loop keeps. -/
structure MvAt (w wr : World) (a u : Value) (B : Nat) (m : List Rc) : Prop where
  xa : BoxAt wr w.heap.size #[a] 25
  xr : BoxAt wr (w.heap.size + 1) #[.slice none 0 0] 25
  xo : BoxAt wr B #[u] 25
  own : OwnAt wr B 49 4 encR u m
  below : Below w.heap.size w wr
theorem MvAt.keep {w wr w1 : World} {a u : Value} {B : Nat} {m : List Rc} (h : MvAt w wr a u B m) (hb : Below wr.heap.size wr w1) : MvAt w w1 a u B m :=
  ⟨h.xa.below hb, h.xr.below hb, h.xo.below hb, h.own.kept hb, below_step h.below hb⟩
theorem MvAt.next {w wr w1 : World} {a u u' : Value} {B : Nat} {m m' : List Rc} (h : MvAt w wr a u B m) (hB : w.heap.size + 1 < B) (ho : OwnAt w1 B 49 4 encR u' m') (hg : wr.grownBy w1 u.ownBlock) : MvAt w (w1.setCell ⟨B, 0, none⟩ u') a u' B m' := by
  have xo := h.xo.grown (by decide) hg h.own
  refine ⟨(h.xa.grown (by decide) hg h.own).other (by omega) _, (h.xr.grown (by decide) hg h.own).other (by omega) _, xo.set 0 u', own_box xo (by decide) ho, (h.below.grown hg h.below.size (fun k hk => by have := ownsRow_ge h.own k hk; omega)).setCell (by show w.heap.size ≤ B; omega) _⟩

set_option maxHeartbeats 4000000 in
set_option maxRecDepth 100000 in
theorem refMove_ok (v : Value) (l : List Rc) (dx dy : Int) (w : World) (h : RectsAt w v l) (hv : ValidP l) (hx : -16384 ≤ dx ∧ dx ≤ 16384) (hy : -16384 ≤ dy ∧ dy ≤ 16384) (hin : ∀ r ∈ l, 0 ≤ r.l + dx ∧ 0 ≤ r.b + dy ∧ r.r + dx ≤ 16384 ∧ r.h + dy ≤ 16384) :
    Calls Try.prog 12 #[.agg #[v], .int .i64 dx, .int .i64 dy] w fun e w' => RetR w.heap.size w' e (fun out c => out = l.map (moveR dx dy) ∧ c = 0) ∧ Below w.heap.size w w' := by
  obtain ⟨i0, hi, hz0, hz1, hz2⟩ := info_parts info_rect
  have HV := Lib.hid (fun (w' : World) (hb : Below w.heap.size w w') => refValid_any v l w' (h.below hb))
  have HR := Lib.hid h
  obtain ⟨p, cap, rfl⟩ := h.shape
  have b2 : Below w.heap.size w ((w.alloc (.cells #[.slice p l.length cap] 25)).alloc (.cells #[.slice none 0 0] 25)) := ((Below.refl _ _).alloc (Nat.le_refl _) _).alloc (by simp) _
  have x1 : BoxAt ((w.alloc (.cells #[.slice p l.length cap] 25)).alloc (.cells #[.slice none 0 0] 25)) w.heap.size #[.slice p l.length cap] 25 := (BoxAt.new _ _ _).alloc _
  have x2 : BoxAt ((w.alloc (.cells #[.slice p l.length cap] 25)).alloc (.cells #[.slice none 0 0] 25)) (w.heap.size + 1) #[.slice none 0 0] 25 := by
    have := BoxAt.new (w.alloc (.cells #[.slice p l.length cap] 25)) #[.slice none 0 0] 25
    rwa [World.size_alloc] at this
  have B2 := Lib.hid b2
  have X1 := Lib.hid x1
  have X2 := Lib.hid x2
  clear b2 x1 x2 h
  obtain ⟨n, hn⟩ : ∃ n, n = l.length := ⟨_, rfl⟩
  rw [← hn] at HV HR B2 X1 X2 ⊢
  have N := Lib.hid hn
  have VV := Lib.hid hv
  have HIn := Lib.hid hin
  have hn120 : (n : Int) ≤ 120 := by have := hv.1; omega
  obtain ⟨hx1, hx2⟩ := hx
  obtain ⟨hy1, hy2⟩ := hy
  clear hn hv hin
  go_enter Try.func12, Try.ntmps12
  go_wp2_with fail
  refine Calls.mono (HV.out _ B2.out) ?_
  rintro e w1 ⟨hr, hb1⟩
  obtain rfl := hr.is_yes VV.out
  have B3 := Lib.hid (below_step B2.out hb1)
  have Y1 := X1.out.below hb1
  have Y2 := X2.out.below hb1
  have c1 := Y1.cell (i := 0) rfl
  have hs2 := Y2.lt
  have hb3 : Below w1.heap.size w1 (w1.alloc (.cells #[.slice none 0 0] 25)) := (Below.refl _ _).alloc (Nat.le_refl _) _
  have HST := Lib.hid (show MvAt w (w1.alloc (.cells #[.slice none 0 0] 25)) (.slice p n cap) (.slice none 0 0) w1.heap.size [] from
    ⟨Y1.below hb3, Y2.below hb3, BoxAt.new _ _ _, OwnAt.nil .., below_step B3.out hb3⟩)
  have c2 := (Y1.below hb3).cell (i := 0) rfl
  have hne : w.heap.size ≠ w1.heap.size := by omega
  clear hb1 hr hb3 Y1 Y2
  go_wp2
  go_loopw [34] (fun i wr => ∃ (k : Nat) (u : Value), k ≤ n ∧ i = .int .i64 k ∧ MvAt w wr (.slice p n cap) u w1.heap.size ((l.take k).map (moveR dx dy))) (fun i _ => n - (intOf i).toNat)
  case atStart => exact ⟨0, .slice none 0 0, Nat.zero_le _, rfl, HST.out⟩
  case round =>
    obtain ⟨k, u, hk, rfl, hst⟩ := hrel
    have xo := hst.xo.cell (i := 0) rfl
    have fo := hst.xo.free 0
    have hlo := hst.xo.lt
    by_cases hkn : k < n
    · have hkl : k < l.length := by rw [← N.out]; exact hkn
      have hkn' : (k : Int) < (n : Int) := by omega
      obtain ⟨p', cap', e0, _, _, hcell⟩ := HR.out.below hst.below
      simp only [Value.slice.injEq] at e0
      obtain ⟨e0, e0b, e0c⟩ := e0
      subst e0
      subst e0c
      clear e0b
      obtain ⟨b, off, rfl, hlt, hrc⟩ := hcell k hkl
      obtain ⟨c0, d1, d2, d3⟩ := hrc
      have n1 : b ≠ wr.heap.size := by omega
      have HE := Lib.hid (show (l.take (k + 1)).map (moveR dx dy) = (l.take k).map (moveR dx dy) ++ [moveR dx dy l[k]!] by
        rw [List.take_succ_eq_append_getElem hkl, List.map_append, getElem!_pos l k hkl]; rfl)
      have hmem : l[k]! ∈ l := by rw [getElem!_pos l k hkl]; exact List.getElem_mem _
      obtain ⟨g1, g2, g3, g4⟩ := HIn.out _ hmem
      have hpr := VV.out.2.1 _ hmem
      unfold properR at hpr
      obtain ⟨g5, g6, g7, g8, g9, g10⟩ := hpr
      have hlen : ((l.take k).map (moveR dx dy)).length = k := by rw [List.length_map, List.length_take]; omega
      have HST2 := Lib.hid hst
      obtain ⟨pu, cu, rfl⟩ := hst.own.shape
      rw [hlen] at xo HST2
      clear hst hcell hmem
      generalize l[k]! = r at *
      generalize hl0 : (l.take k).map (moveR dx dy) = l0 at *
      have hb3 : Below wr.heap.size wr (((wr.alloc (.cells #[.int .i64 r.l, .int .i64 r.b, .int .i64 r.r, .int .i64 r.h] 49)).alloc (.cells #[.int .i64 (r.l + dx), .int .i64 (r.b + dy), .int .i64 (r.r + dx), .int .i64 (r.h + dy)] 49)).alloc (.cells #[.int .i64 (r.l + dx), .int .i64 (r.b + dy), .int .i64 (r.r + dx), .int .i64 (r.h + dy)] 49)) := (((Below.refl _ _).alloc (Nat.le_refl _) _).alloc (by simp) _).alloc (by simp; omega) _
      have H3 := Lib.hid (HST2.out.keep hb3)
      have hwr := HST2.out.xo.lt
      have hxs := H3.out.own
      unfold OwnAt at hxs
      rw [hlen] at hxs
      have HXS := Lib.hid hxs
      clear hb3 hxs
      go_wp2_with (first | (at_builtin; refine wpList_append_own _ rfl _ _ 23 rfl w1.heap.size 49 i0 _ 4 32 Try.underlying23 hi hz0 hz1 hz2 rfl (by decide) _ k _ rfl HXS.out ⟨wr.heap.size + 1 + 1, 0, none⟩ 1 1 [.int .i64 (r.l + dx), .int .i64 (r.b + dy), .int .i64 (r.r + dx), .int .i64 (r.h + dy)] rfl rfl ?c1 ?c2 ?c3 ?c4 ?c5 ?_))
      case c1 => exact news_at (by simp)
      case c2 => exact List.all_eq_true.1 (by rfl)
      case c3 => unfold maxLen; omega
      case c4 => omega
      case c5 => simp; omega
      intro v' w4 hown1 hgrow _
      have HO2 := OwnAt.snoc (l := l0) (m := [moveR dx dy r]) (enc := encR) (n := 1) rfl (by rw [hlen]; exact hown1)
      have HN := Lib.hid (H3.out.next (by omega) HO2 hgrow)
      have hxo4 := H3.out.xo.grown (by decide) hgrow H3.out.own
      have xo4 := hxo4.cell (i := 0) rfl
      have fo4 := hxo4.free 0
      obtain ⟨p4, c4, rfl⟩ := own_shape hown1
      clear hown1 hgrow hxo4 HO2
      go_wp2
      go_roundw
      case rel => exact ⟨k + 1, _, by omega, by simp, by rw [HE.out]; exact HN.out⟩
      case measure => simp [intOf]; omega
    · obtain rfl : k = n := by omega
      have HST2 := Lib.hid hst
      have xr := hst.xr.cell (i := 0) rfl
      have fr := hst.xr.free 0
      have hfull : (l.take k).map (moveR dx dy) = l.map (moveR dx dy) := by rw [List.take_of_length_le (by rw [N.out]; exact Nat.le_refl _)]
      rw [hfull] at HST2
      obtain ⟨pu, cu, rfl⟩ := hst.own.shape
      rw [hfull] at xo HST2
      clear hst
      go_wp2
      refine bodyPost_ret (ret_re rfl rfl rfl (HST2.out.xr.set 0 _)) rfl ⟨⟨_, l.map (moveR dx dy), 0, rfl, ?_, (fun q hq => ?_), rfl, rfl⟩, HST2.out.below.setCell (by show w.heap.size ≤ w.heap.size + 1; omega) _⟩
      · have h1 := HST2.out.own.rects.set (b := w.heap.size + 1) (fun q hq => by have := ownsRow_ge HST2.out.own q hq; omega) 0 (.slice pu l.length cu)
        rw [List.length_map] at h1
        exact h1
      · have := ownsRow_ge HST2.out.own q (by rw [List.length_map]; exact hq); omega
end Go.Proofs.Ytdpnkbbphfcngab
