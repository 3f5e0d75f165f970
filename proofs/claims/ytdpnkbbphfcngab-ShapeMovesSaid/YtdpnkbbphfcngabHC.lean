/- shape.Shrink. -/
import Derived.Test.YtdpnkbbphfcngabHM
import Derived.Deep.RegionHeld3
namespace Go.Proofs.Ytdpnkbbphfcngab
open Go.RowKit Go.Shelf

theorem keepIn : KeepAt (fun m => decide (m = 1)) 27 where
  enter := enters_of Try.func27 (by kernel_rfl) rfl
  says m w := by
    go_enter Try.func27, Try.ntmps27
    go_wp2
    go_ret
    exact ⟨ret_bool (by rw [Bool.eq_iff_iff]; simp), rfl⟩

theorem rects_one (w : World) (r : Rc) : RectsAt (w.alloc (.cells #[.int .i64 r.l, .int .i64 r.b, .int .i64 r.r, .int .i64 r.h] 49)) (.slice (some ⟨w.heap.size, 0, none⟩) 1 1) [r] := by
  refine ⟨_, 1, rfl, (by show 1 ≤ maxLen; decide), Nat.le_refl _, fun j hj => ?_⟩
  have hj0 : j = 0 := by simp at hj; omega
  subst hj0
  refine ⟨w.heap.size, 0, rfl, by simp, ?_⟩
  have hb := BoxAt.new w #[.int .i64 r.l, .int .i64 r.b, .int .i64 r.r, .int .i64 r.h] 49
  exact ⟨hb.cell (i := 0) rfl, hb.cell (i := 1) rfl, hb.cell (i := 2) rfl, hb.cell (i := 3) rfl⟩

theorem rects_big (w : World) : RectsAt (w.alloc (.cells #[.int .i64 (-1), .int .i64 (-1), .int .i64 16385, .int .i64 16385] 49)) (.slice (some ⟨w.heap.size, 0, none⟩) 1 1) [bigR] := rects_one w bigR

theorem proper_shrunk {l m c : List Rc} {k : Int} (hl : ValidP l) (hc : CanonFor (fun x y => insideB l x y && !insideB (m.map (growR k)) x y) c) : ∀ q ∈ c, properR q := by
  intro q hq
  have := canon_box hc (a := 0) (b := 16384) (c := 0) (d := 16384) (fun x y h => valid_grid hl (by rw [Bool.and_eq_true] at h; exact h.1)) q hq
  unfold properR
  omega

set_option maxHeartbeats 8000000 in
set_option maxRecDepth 100000 in
theorem shrink_any (v : Value) (l : List Rc) (k : Int) (w : World) (h : RectsAt w v l) :
    Calls Try.prog 9 #[.agg #[v], .int .i64 k] w fun e w' => RetR w.heap.size w' e (ShrinkR l k) ∧ Below w.heap.size w w' := by
  have HCk := Lib.hid (fun (w' : World) (hb : Below w.heap.size w w') => check_any v l k w' (h.below hb))
  have HR := Lib.hid h
  obtain ⟨p, cap, rfl⟩ := h.shape
  have b2 : Below w.heap.size w ((w.alloc (.cells #[.slice p l.length cap] 25)).alloc (.cells #[.slice none 0 0] 25)) := ((Below.refl _ _).alloc (Nat.le_refl _) _).alloc (by simp) _
  have x1 : BoxAt ((w.alloc (.cells #[.slice p l.length cap] 25)).alloc (.cells #[.slice none 0 0] 25)) w.heap.size #[.slice p l.length cap] 25 := (BoxAt.new _ _ _).alloc _
  have x2 : BoxAt ((w.alloc (.cells #[.slice p l.length cap] 25)).alloc (.cells #[.slice none 0 0] 25)) (w.heap.size + 1) #[.slice none 0 0] 25 := by
    have := BoxAt.new (w.alloc (.cells #[.slice p l.length cap] 25)) #[.slice none 0 0] 25
    rwa [World.size_alloc] at this
  have B2 := Lib.hid b2
  have X1 := Lib.hid x1
  have X2 := Lib.hid x2
  clear b2 x1 x2 h
  obtain ⟨n, hn⟩ : ∃ n, n = l.length := ⟨_, rfl⟩
  rw [← hn] at HCk HR B2 X1 X2 ⊢
  have N := Lib.hid hn
  clear hn
  have HCh := Lib.hid (fun (w' : World) (hb : Below w.heap.size w w') (pv : ValidP l) => by
    have h0 := choose2_any (fun m => decide (m = 1)) (fun p q => p && !q) 27 keepIn (by intro p q; cases p <;> cases q <;> rfl) _ (.slice p n cap) [bigR] l _ (rects_big w') (HR.out.below (hb.alloc hb.size _)) (by have := pv.1; simp; omega) (fun r hr => by simp at hr; subst hr; decide) fun r hr => (valid_filled pv r hr).1
    rw [World.size_alloc] at h0
    exact h0)
  go_enter Try.func9, Try.ntmps9
  go_wp2_with fail
  refine Calls.mono (HCk.out _ B2.out) ?_
  rintro e w1 ⟨⟨c, rfl, hc⟩, hb1⟩
  have B3 := Lib.hid (below_step B2.out hb1)
  have Y1 := X1.out.below hb1
  have Y2 := X2.out.below hb1
  have c1 := Y1.cell (i := 0) rfl
  have c2 := Y2.cell (i := 0) rfl
  have f2 := Y2.free 0
  have Y1 := Lib.hid Y1
  have Y2 := Lib.hid Y2
  have HC := Lib.hid hc
  clear hb1
  rcases hc with ⟨nv, rfl⟩ | ⟨pv, nk, rfl⟩ | ⟨pv, k0, k1, rfl⟩
  · clear nv
    go_wp2
    exact bodyPost_ret (ret_re rfl rfl rfl (Y2.out.set 0 (.slice none 0 0))) rfl ⟨⟨_, [], 7, rfl, RectsAt.nil _, nil_own _, .inl ⟨HC.out, by decide, rfl⟩⟩, B3.out.setCell (by show w.heap.size ≤ w.heap.size + 1; omega) _⟩
  · clear nk pv
    go_wp2
    exact bodyPost_ret (ret_re rfl rfl rfl (Y2.out.set 0 (.slice none 0 0))) rfl ⟨⟨_, [], 2, rfl, RectsAt.nil _, nil_own _, .inl ⟨HC.out, by decide, rfl⟩⟩, B3.out.setCell (by show w.heap.size ≤ w.heap.size + 1; omega) _⟩
  · have PV := Lib.hid pv
    have hn120 : (n : Int) ≤ 120 := by have := pv.1; rw [← N.out] at this; omega
    have hy1 := Y1.out.lt
    clear HC pv
    go_wp2_with fail
    refine Calls.mono (HCh.out _ B3.out PV.out) ?_
    rintro e w2 ⟨mv, m, rfl, ho, hcan, hlen, hb2⟩
    have hb12 : Below w1.heap.size w1 w2 := below_new (o := .cells #[.int .i64 (-1), .int .i64 (-1), .int .i64 16385, .int .i64 16385] 49) (by rw [World.size_alloc]; exact hb2)
    have B4 := Lib.hid (below_step B3.out hb12)
    have Z1 := Y1.out.below hb12
    have Z2 := Y2.out.below hb12
    have HM := Lib.hid (show AroundR l m from hcan)
    have hl120 : l.length ≤ 120 := PV.out.1
    have hmo : OwnAt w2 w.heap.size 49 4 encR mv m := ho.mono (by have := B3.out.size; omega)
    have hm30 : m.length ≤ 119000 := by
      have h1 : ([bigR].length + l.length) * ([bigR].length + l.length) ≤ 121 * 121 := Nat.mul_le_mul (by simp; omega) (by simp; omega)
      omega
    have HGr := Lib.hid (fun (w' : World) (hb : Below w2.heap.size w2 w') => grown_any mv m k w' (hmo.kept hb).rects HM.out.sm k0 (by omega) (by omega))
    have HCh2 := Lib.hid (fun (w' : World) (hb : Below w2.heap.size w2 w') (gv : Value) (hg : RectsAt w' gv (m.map (growR k))) => choose2_any (fun m => decide (m = 1)) (fun p q => p && !q) 27 keepIn (by intro p q; cases p <;> cases q <;> rfl) (.slice p n cap) gv l (m.map (growR k)) w' (HR.out.below (below_step B4.out hb)) hg (by have := PV.out.1; rw [List.length_map]; omega) (fun r hr => (valid_filled PV.out r hr).1) (fun r hr => by
      obtain ⟨q, hq, rfl⟩ := List.mem_map.1 hr
      have := HM.out.box q hq
      simp only [growR]; omega))
    have d1 := Z1.cell (i := 0) rfl
    have d2 := Z2.cell (i := 0) rfl
    have g2 := Z2.free 0
    have Z1 := Lib.hid Z1
    have Z2 := Lib.hid Z2
    have hw2 := B4.out.size
    obtain ⟨pm, cm, rfl⟩ := ho.shape
    clear ho hcan hlen hb2 hb12 c1 c2 f2 hmo HCh HCk
    have KS := Lib.hid (fun (w' : World) (h : Below w2.heap.size w2 w') => (Z1.out.below h).cell (i := 0) rfl)
    have KT := Lib.hid (fun (w' : World) (h : Below w2.heap.size w2 w') (u : Value) => ((Z1.out.below h).other (b' := w.heap.size + 1) (j := 0) (by omega) u).cell (i := 0) rfl)
    go_wp2
    refine wp_region_noPanic ?_
    go_region_held3 (fun w' => w'.cell? ⟨w.heap.size, 0, none⟩ = some (.slice p n cap)) (first | exact KS.out _ (by first | assumption | exact Below.drew (by assumption) | exact Below.drew (Below.refl _ _) | exact Below.alloc kb1 kb1.size _) | exact KT.out _ kb3 _) (first
      | (go_at_call 24; (with_reducible refine Calls.mono (HGr.out _ (by first | assumption | exact Below.drew (Below.refl _ _))) ?_); rintro e w3 ⟨gv, rfl, hg, hb3⟩; have kb1 : Below w2.heap.size w2 w3 := below_step (Below.drew (Below.refl _ _)) hb3; have hgr := hg.rects; obtain ⟨pg, cg, rfl⟩ := hg.shape; rw [List.length_map] at hgr; have G := Lib.hid hgr; clear hg hgr hb3)
      | (go_at_call 28; (with_reducible refine Calls.mono (HCh2.out _ kb1 _ G.out) ?_); rintro e w4 ⟨cv, c, rfl, ho, hcan, hlen, hb4⟩; have kb2 : Below w2.heap.size w2 w4 := below_step kb1 hb4; have HO := Lib.hid ho; have HCan := Lib.hid hcan; clear ho hcan hlen hb4)
      | (go_at_call 26; (with_reducible refine Calls.mono (of_any _ _ _ HO.out.rects) ?_); rintro e w5 ⟨⟨v5, l5, e5, rfl, hr5, hv5, hL5⟩, hb5⟩; have kb3 : Below w2.heap.size w2 w5 := below_step kb2 hb5; have q2 := (Z2.out.below kb3).cell (i := 0) rfl; have q3 := (Z2.out.below kb3).free 0; obtain ⟨p5, k5, rfl⟩ := hr5.shape; have HR5 := Lib.hid hr5; have HV5 := Lib.hid hv5; have HL5 := Lib.hid hL5; clear hr5 hv5 hL5 hb5)
      | fail)
    refine NoPanic.normal ?_
    have B5 := Lib.hid (below_step B4.out kb3)
    have R2 := Lib.hid (Z2.out.below kb3)
    have hsz := kb2.size
    have hsz2 := B4.out.size
    have hz2 := Z2.out.lt
    have hLim := Lib.hid (ofR_canon HCan.out (proper_shrunk PV.out HCan.out) HL5.out)
    go_wp2
    refine bodyPost_ret (ret_re rfl rfl rfl (R2.out.set 0 (.slice p5 l5.length k5))) rfl ⟨⟨_, l5, e5, rfl, HR5.out.set (fun q hq => ?_) _ _, (fun q hq => ?_), .inr ⟨PV.out, k0, k1, m, c, HM.out, HCan.out, hLim.out⟩⟩, B5.out.setCell (by show w.heap.size ≤ w.heap.size + 1; omega) _⟩
    · have := HV5.out q hq; omega
    · have := HV5.out q hq; omega
end Go.Proofs.Ytdpnkbbphfcngab
