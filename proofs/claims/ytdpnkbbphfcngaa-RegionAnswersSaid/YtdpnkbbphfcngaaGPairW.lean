/- The law's pair: whatever two regions, valid or not, code and reference agree. -/
import Derived.Test.YtdpnkbbphfcngaaGRefV
import Derived.Test.YtdpnkbbphfcngaaGWth2
namespace Go.Proofs.Ytdpnkbbphfcngaa
open Go.RowKit Go.Shelf

theorem RetB.at {e : Ending} {P : Prop} (h : RetB e P) {t : Bool} (ht : t = true ↔ P) : e = .returned (.bool t) := by
  obtain ⟨b, rfl, hb⟩ := h
  have : b = t := Bool.eq_iff_iff.2 (hb.trans ht.symm)
  rw [this]
theorem bool_of (P : Prop) : ∃ t : Bool, t = true ↔ P := by
  by_cases h : P
  · exact ⟨true, fun _ => h, fun _ => rfl⟩
  · exact ⟨false, fun h' => (by cases h'), fun h' => absurd h' h⟩
theorem AreaP.ex (l : List Rc) : ∃ z, AreaP l z := by
  by_cases h : ValidP l
  · exact ⟨_, fun _ => rfl, fun h' => absurd h h'⟩
  · exact ⟨0, fun h' => absurd h' h, fun _ => rfl⟩
theorem AreaP.det {l : List Rc} {z y : Int} (h : AreaP l z) (g : AreaP l y) : z = y := by
  by_cases hv : ValidP l
  · rw [h.1 hv, g.1 hv]
  · rw [h.2 hv, g.2 hv]

set_option maxHeartbeats 16000000 in
set_option maxRecDepth 200000 in
theorem pair_any (va vb : Value) (a b : List Rc) (x y : Int) (w : World) (ha : RectsAt w va a) (hb : RectsAt w vb b) (hla : a.length ≤ 1000) (hlb : b.length ≤ 1000) :
    Calls Try.prog 18 #[.agg #[va], .agg #[vb], .int .i64 x, .int .i64 y] w fun e w' => e = .returned (.bool true) ∧ Below w.heap.size w w' := by
  obtain ⟨pa, ca, rfl⟩ := ha.shape
  obtain ⟨pb, cb, rfl⟩ := hb.shape
  have hT := two_at w (.slice pa a.length ca) (.slice pb b.length cb)
  have Ra := Lib.hid (ha.below hT.bw)
  have Rb := Lib.hid (hb.below hT.bw)
  have Xa := Lib.hid hT.x0
  have Xb := Lib.hid hT.x1
  have BW4 := Lib.hid hT.bw
  have LA := Lib.hid hla
  have LB := Lib.hid hlb
  clear hT ha hb hla hlb
  go_enter Try.func18, Try.ntmps18
  go_wp2_with fail
  generalize (w.alloc (.cells #[.slice pa a.length ca] 24)).alloc (.cells #[.slice pb b.length cb] 24) = w4 at *
  refine (union_any _ _ _ _ _ Ra.out Rb.out).mono ?_
  rintro e w5 ⟨⟨vp, p, ep, rfl, hr, hv, hq⟩, hb⟩
  have Qp := Lib.hid hq
  obtain ⟨pp, cp, rfl⟩ := hr.shape
  have HB6 := Lib.hid (show Below w4.heap.size w4 (w5.alloc (.cells #[.slice pp p.length cp] 24)) from hb.alloc hb.size _)
  have Xp := Lib.hid (BoxAt.new w5 #[.slice pp p.length cp] 24)
  have Rp := Lib.hid (hr.below ((Below.refl _ _).alloc (Nat.le_refl _) (.cells #[.slice pp p.length cp] 24)))
  clear hr hv hq hb
  have x2 := (BoxAt.new w5 #[.slice none 0 0] 24).free 0
  have z0 := (Xa.out.below HB6.out).cell (i := 0) rfl
  have z1 := (Xb.out.below HB6.out).cell (i := 0) rfl
  go_wp2_with fail
  clear x2 z0 z1
  generalize w5.alloc (.cells #[.slice pp p.length cp] 24) = w6 at *
  refine (refUnion_any _ _ _ _ _ (Ra.out.below HB6.out) (Rb.out.below HB6.out)).mono ?_
  rintro e w7 ⟨⟨vq, q, eq, rfl, hr, hv, hq⟩, hb⟩
  obtain ⟨rfl, rfl⟩ := Qp.out.det hq
  obtain ⟨pq, cq, rfl⟩ := hr.shape
  have HB8 := Lib.hid (show Below w6.heap.size w6 (w7.alloc (.cells #[.slice pq p.length cq] 24)) from hb.alloc hb.size _)
  have Xq := Lib.hid (BoxAt.new w7 #[.slice pq p.length cq] 24)
  have Rq := Lib.hid (hr.below ((Below.refl _ _).alloc (Nat.le_refl _) (.cells #[.slice pq p.length cq] 24)))
  clear hr hv hq hb
  have x2 := (BoxAt.new w7 #[.slice none 0 0] 24).free 0
  have z0 := ((Xa.out.below HB6.out).below HB8.out).cell (i := 0) rfl
  have z1 := ((Xb.out.below HB6.out).below HB8.out).cell (i := 0) rfl
  go_wp2_with fail
  clear x2 z0 z1
  generalize w7.alloc (.cells #[.slice pq p.length cq] 24) = w8 at *
  refine (both_any _ _ _ _ _ ((Ra.out.below HB6.out).below HB8.out) ((Rb.out.below HB6.out).below HB8.out)).mono ?_
  rintro e w9 ⟨⟨vr, r, er, rfl, hr, hv, hq⟩, hb⟩
  have Qr := Lib.hid hq
  obtain ⟨pr, cr, rfl⟩ := hr.shape
  have HB10 := Lib.hid (show Below w8.heap.size w8 (w9.alloc (.cells #[.slice pr r.length cr] 24)) from hb.alloc hb.size _)
  have Xr := Lib.hid (BoxAt.new w9 #[.slice pr r.length cr] 24)
  have Rr := Lib.hid (hr.below ((Below.refl _ _).alloc (Nat.le_refl _) (.cells #[.slice pr r.length cr] 24)))
  clear hr hv hq hb
  have x2 := (BoxAt.new w9 #[.slice none 0 0] 24).free 0
  have z0 := (((Xa.out.below HB6.out).below HB8.out).below HB10.out).cell (i := 0) rfl
  have z1 := (((Xb.out.below HB6.out).below HB8.out).below HB10.out).cell (i := 0) rfl
  go_wp2_with fail
  clear x2 z0 z1
  generalize w9.alloc (.cells #[.slice pr r.length cr] 24) = w10 at *
  refine (refBoth_any _ _ _ _ _ (((Ra.out.below HB6.out).below HB8.out).below HB10.out) (((Rb.out.below HB6.out).below HB8.out).below HB10.out)).mono ?_
  rintro e w11 ⟨⟨vs, s, es, rfl, hr, hv, hq⟩, hb⟩
  obtain ⟨rfl, rfl⟩ := Qr.out.det hq
  obtain ⟨ps, cs, rfl⟩ := hr.shape
  have HB12 := Lib.hid (show Below w10.heap.size w10 (w11.alloc (.cells #[.slice ps r.length cs] 24)) from hb.alloc hb.size _)
  have Xs := Lib.hid (BoxAt.new w11 #[.slice ps r.length cs] 24)
  have Rs := Lib.hid (hr.below ((Below.refl _ _).alloc (Nat.le_refl _) (.cells #[.slice ps r.length cs] 24)))
  clear hr hv hq hb
  have x2 := (BoxAt.new w11 #[.slice none 0 0] 24).free 0
  have z0 := ((((Xa.out.below HB6.out).below HB8.out).below HB10.out).below HB12.out).cell (i := 0) rfl
  have z1 := ((((Xb.out.below HB6.out).below HB8.out).below HB10.out).below HB12.out).cell (i := 0) rfl
  go_wp2_with fail
  clear x2 z0 z1
  generalize w11.alloc (.cells #[.slice ps r.length cs] 24) = w12 at *
  refine (without_any _ _ _ _ _ ((((Ra.out.below HB6.out).below HB8.out).below HB10.out).below HB12.out) ((((Rb.out.below HB6.out).below HB8.out).below HB10.out).below HB12.out)).mono ?_
  rintro e w13 ⟨⟨vu, u, eu, rfl, hr, hv, hq⟩, hb⟩
  have Qu := Lib.hid hq
  obtain ⟨pu, cu, rfl⟩ := hr.shape
  have HB14 := Lib.hid (show Below w12.heap.size w12 (w13.alloc (.cells #[.slice pu u.length cu] 24)) from hb.alloc hb.size _)
  have Xu := Lib.hid (BoxAt.new w13 #[.slice pu u.length cu] 24)
  have Ru := Lib.hid (hr.below ((Below.refl _ _).alloc (Nat.le_refl _) (.cells #[.slice pu u.length cu] 24)))
  clear hr hv hq hb
  have x2 := (BoxAt.new w13 #[.slice none 0 0] 24).free 0
  have z0 := (((((Xa.out.below HB6.out).below HB8.out).below HB10.out).below HB12.out).below HB14.out).cell (i := 0) rfl
  have z1 := (((((Xb.out.below HB6.out).below HB8.out).below HB10.out).below HB12.out).below HB14.out).cell (i := 0) rfl
  go_wp2_with fail
  clear x2 z0 z1
  generalize w13.alloc (.cells #[.slice pu u.length cu] 24) = w14 at *
  refine (refWithout_any _ _ _ _ _ (((((Ra.out.below HB6.out).below HB8.out).below HB10.out).below HB12.out).below HB14.out) (((((Rb.out.below HB6.out).below HB8.out).below HB10.out).below HB12.out).below HB14.out)).mono ?_
  rintro e w15 ⟨⟨vv, v, ev, rfl, hr, hv, hq⟩, hb⟩
  obtain ⟨rfl, rfl⟩ := Qu.out.det hq
  obtain ⟨pv, cv, rfl⟩ := hr.shape
  have HB16 := Lib.hid (show Below w14.heap.size w14 (w15.alloc (.cells #[.slice pv u.length cv] 24)) from hb.alloc hb.size _)
  have Xv := Lib.hid (BoxAt.new w15 #[.slice pv u.length cv] 24)
  have Rv := Lib.hid (hr.below ((Below.refl _ _).alloc (Nat.le_refl _) (.cells #[.slice pv u.length cv] 24)))
  clear hr hv hq hb
  have x2 := (BoxAt.new w15 #[.slice none 0 0] 24).free 0
  go_wp2_with fail
  clear x2
  generalize w15.alloc (.cells #[.slice pv u.length cv] 24) = w16 at *
  have Ya := Lib.hid (((((((Xa.out.below HB6.out).below HB8.out).below HB10.out).below HB12.out).below HB14.out).below HB16.out))
  have Sa := Lib.hid (((((((Ra.out.below HB6.out).below HB8.out).below HB10.out).below HB12.out).below HB14.out).below HB16.out))
  have Yb := Lib.hid (((((((Xb.out.below HB6.out).below HB8.out).below HB10.out).below HB12.out).below HB14.out).below HB16.out))
  have Sb := Lib.hid (((((((Rb.out.below HB6.out).below HB8.out).below HB10.out).below HB12.out).below HB14.out).below HB16.out))
  have Yp := Lib.hid ((((((Xp.out.below HB8.out).below HB10.out).below HB12.out).below HB14.out).below HB16.out))
  have Sp := Lib.hid ((((((Rp.out.below HB8.out).below HB10.out).below HB12.out).below HB14.out).below HB16.out))
  have Yq := Lib.hid (((((Xq.out.below HB10.out).below HB12.out).below HB14.out).below HB16.out))
  have Sq := Lib.hid (((((Rq.out.below HB10.out).below HB12.out).below HB14.out).below HB16.out))
  have Yr := Lib.hid ((((Xr.out.below HB12.out).below HB14.out).below HB16.out))
  have Sr := Lib.hid ((((Rr.out.below HB12.out).below HB14.out).below HB16.out))
  have Ys := Lib.hid (((Xs.out.below HB14.out).below HB16.out))
  have Ss := Lib.hid (((Rs.out.below HB14.out).below HB16.out))
  have Yu := Lib.hid ((Xu.out.below HB16.out))
  have Su := Lib.hid ((Ru.out.below HB16.out))
  have Yv := Lib.hid (Xv.out)
  have Sv := Lib.hid (Rv.out)
  have BWK := Lib.hid (below_step (below_step (below_step (below_step (below_step (below_step BW4.out HB6.out) HB8.out) HB10.out) HB12.out) HB14.out) HB16.out)
  clear BW4 HB6 HB8 HB10 HB12 HB14 HB16 Xa Ra Xb Rb Xp Rp Xq Rq Xr Rr Xs Rs Xu Ru Xv Rv Qp Qr Qu
  have KS := Lib.hid (fun (w' : World) (h : Below w16.heap.size w16 w') => (⟨(Ya.out.below h).cell (i := 0) rfl, (Yb.out.below h).cell (i := 0) rfl, (Yp.out.below h).cell (i := 0) rfl, (Yq.out.below h).cell (i := 0) rfl, (Yr.out.below h).cell (i := 0) rfl, (Ys.out.below h).cell (i := 0) rfl, (Yu.out.below h).cell (i := 0) rfl, (Yv.out.below h).cell (i := 0) rfl, h⟩ : w'.cell? ⟨w.heap.size, 0, none⟩ = some (.slice pa a.length ca) ∧ w'.cell? ⟨w.heap.size + 1, 0, none⟩ = some (.slice pb b.length cb) ∧ w'.cell? ⟨w5.heap.size, 0, none⟩ = some (.slice pp p.length cp) ∧ w'.cell? ⟨w7.heap.size, 0, none⟩ = some (.slice pq p.length cq) ∧ w'.cell? ⟨w9.heap.size, 0, none⟩ = some (.slice pr r.length cr) ∧ w'.cell? ⟨w11.heap.size, 0, none⟩ = some (.slice ps r.length cs) ∧ w'.cell? ⟨w13.heap.size, 0, none⟩ = some (.slice pu u.length cu) ∧ w'.cell? ⟨w15.heap.size, 0, none⟩ = some (.slice pv u.length cv) ∧ Below w16.heap.size w16 w'))
  obtain ⟨tV, hV⟩ := bool_of (ValidP a)
  obtain ⟨tH, hH⟩ := bool_of (ValidP a ∧ insideB a x y = true)
  obtain ⟨tW, hW⟩ := bool_of (ValidP a ∧ ValidP b ∧ Sub a b)
  obtain ⟨tM, hM⟩ := bool_of (ValidP a ∧ ValidP b ∧ ∃ x y, insideB a x y = true ∧ insideB b x y = true)
  obtain ⟨tS, hS⟩ : ∃ t : Bool, t = decide (a = b) := ⟨_, rfl⟩
  obtain ⟨zA, hA⟩ := AreaP.ex a
  have K1 := Lib.hid (fun (w' : World) (h : Below w16.heap.size w16 w') => (show Calls Try.prog 28 #[.agg #[.slice pa a.length ca]] w' fun e w'' => e = .returned (.bool tV) ∧ Below w'.heap.size w' w'' from (valid_any _ _ w' (Sa.out.below h)).mono fun e w'' ⟨hr, hb⟩ => ⟨hr.at hV, hb⟩))
  have K2 := Lib.hid (fun (w' : World) (h : Below w16.heap.size w16 w') => (show Calls Try.prog 40 #[.agg #[.slice pa a.length ca]] w' fun e w'' => e = .returned (.bool tV) ∧ Below w'.heap.size w' w'' from (refValid_any _ _ w' (Sa.out.below h)).mono fun e w'' ⟨hr, hb⟩ => ⟨hr.at hV, hb⟩))
  have K3 := Lib.hid (fun (w' : World) (h : Below w16.heap.size w16 w') => (show Calls Try.prog 26 #[.agg #[.slice pa a.length ca]] w' fun e w'' => e = .returned (.int .i64 zA) ∧ Below w'.heap.size w' w'' from (area_any _ _ w' (Sa.out.below h)).mono fun e w'' ⟨z, he, hz, hb⟩ => ⟨he.trans (by rw [hz.det hA]), hb⟩))
  have K4 := Lib.hid (fun (w' : World) (h : Below w16.heap.size w16 w') => (show Calls Try.prog 56 #[.agg #[.slice pa a.length ca]] w' fun e w'' => e = .returned (.int .i64 zA) ∧ Below w'.heap.size w' w'' from (refArea_any _ _ w' (Sa.out.below h)).mono fun e w'' ⟨z, he, hz, hb⟩ => ⟨he.trans (by rw [hz.det hA]), hb⟩))
  have K5 := Lib.hid (fun (w' : World) (h : Below w16.heap.size w16 w') => (show Calls Try.prog 25 #[.agg #[.slice pa a.length ca], .int .i64 x, .int .i64 y] w' fun e w'' => e = .returned (.bool tH) ∧ Below w'.heap.size w' w'' from (has_any _ _ x y w' (Sa.out.below h)).mono fun e w'' ⟨hr, hb⟩ => ⟨hr.at hH, hb⟩))
  have K6 := Lib.hid (fun (w' : World) (h : Below w16.heap.size w16 w') => (show Calls Try.prog 31 #[.agg #[.slice pa a.length ca], .int .i64 x, .int .i64 y] w' fun e w'' => e = .returned (.bool tH) ∧ Below w'.heap.size w' w'' from (refHas_any _ _ x y w' (Sa.out.below h)).mono fun e w'' ⟨hr, hb⟩ => ⟨hr.at hH, hb⟩))
  have K7 := Lib.hid (fun (w' : World) (h : Below w16.heap.size w16 w') => (show Calls Try.prog 29 #[.agg #[.slice pa a.length ca], .agg #[.slice pb b.length cb]] w' fun e w'' => e = .returned (.bool tW) ∧ Below w'.heap.size w' w'' from (within_any _ _ _ _ w' (Sa.out.below h) (Sb.out.below h)).mono fun e w'' ⟨hr, hb⟩ => ⟨hr.at hW, hb⟩))
  have K8 := Lib.hid (fun (w' : World) (h : Below w16.heap.size w16 w') => (show Calls Try.prog 57 #[.agg #[.slice pa a.length ca], .agg #[.slice pb b.length cb]] w' fun e w'' => e = .returned (.bool tW) ∧ Below w'.heap.size w' w'' from (refWithin_any _ _ _ _ w' (Sa.out.below h) (Sb.out.below h)).mono fun e w'' ⟨hr, hb⟩ => ⟨hr.at hW, hb⟩))
  have K9 := Lib.hid (fun (w' : World) (h : Below w16.heap.size w16 w') => (show Calls Try.prog 30 #[.agg #[.slice pa a.length ca], .agg #[.slice pb b.length cb]] w' fun e w'' => e = .returned (.bool tM) ∧ Below w'.heap.size w' w'' from (meets_any _ _ _ _ w' (Sa.out.below h) (Sb.out.below h)).mono fun e w'' ⟨hr, hb⟩ => ⟨hr.at hM, hb⟩))
  have K10 := Lib.hid (fun (w' : World) (h : Below w16.heap.size w16 w') => (show Calls Try.prog 58 #[.agg #[.slice pa a.length ca], .agg #[.slice pb b.length cb]] w' fun e w'' => e = .returned (.bool tM) ∧ Below w'.heap.size w' w'' from (refMeets_any _ _ _ _ w' (Sa.out.below h) (Sb.out.below h)).mono fun e w'' ⟨hr, hb⟩ => ⟨hr.at hM, hb⟩))
  have K11 := Lib.hid (fun (w' : World) (h : Below w16.heap.size w16 w') => (show Calls Try.prog 27 #[.agg #[.slice pa a.length ca], .agg #[.slice pb b.length cb]] w' fun e w'' => e = .returned (.bool tS) ∧ Below w'.heap.size w' w'' from (same_any _ _ _ _ w' (Sa.out.below h) (Sb.out.below h) (Nat.le_trans LA.out (by decide)) (Nat.le_trans LB.out (by decide))).mono fun e w'' ⟨he, hb⟩ => ⟨he.trans (by rw [hS]), hb⟩))
  have K12 := Lib.hid (fun (w' : World) (h : Below w16.heap.size w16 w') => (show Calls Try.prog 17 #[.agg #[.slice pa a.length ca], .agg #[.slice pb b.length cb]] w' fun e w'' => e = .returned (.bool tS) ∧ Below w'.heap.size w' w'' from (refSameR_any _ _ _ _ w' (Sa.out.below h) (Sb.out.below h)).mono fun e w'' ⟨hr, hb⟩ => ⟨hr.at (by rw [hS, decide_eq_true_eq]), hb⟩))
  have K13 := Lib.hid (fun (w' : World) (h : Below w16.heap.size w16 w') => (show Calls Try.prog 17 #[.agg #[.slice pp p.length cp], .agg #[.slice pq p.length cq]] w' fun e w'' => e = .returned (.bool true) ∧ Below w'.heap.size w' w'' from (refSameR_any _ _ _ _ w' (Sp.out.below h) (Sq.out.below h)).mono fun e w'' ⟨hr, hb⟩ => ⟨hr.is_yes rfl, hb⟩))
  have K14 := Lib.hid (fun (w' : World) (h : Below w16.heap.size w16 w') => (show Calls Try.prog 17 #[.agg #[.slice pr r.length cr], .agg #[.slice ps r.length cs]] w' fun e w'' => e = .returned (.bool true) ∧ Below w'.heap.size w' w'' from (refSameR_any _ _ _ _ w' (Sr.out.below h) (Ss.out.below h)).mono fun e w'' ⟨hr, hb⟩ => ⟨hr.is_yes rfl, hb⟩))
  have K15 := Lib.hid (fun (w' : World) (h : Below w16.heap.size w16 w') => (show Calls Try.prog 17 #[.agg #[.slice pu u.length cu], .agg #[.slice pv u.length cv]] w' fun e w'' => e = .returned (.bool true) ∧ Below w'.heap.size w' w'' from (refSameR_any _ _ _ _ w' (Su.out.below h) (Sv.out.below h)).mono fun e w'' ⟨hr, hb⟩ => ⟨hr.is_yes rfl, hb⟩))
  clear Ya Sa Yb Sb Yp Sp Yq Sq Yr Sr Ys Ss Yu Su Yv Sv hV hH hW hM hS hA LA LB
  generalize hna : a.length = na at *
  generalize hnb : b.length = nb at *
  generalize hnp : p.length = np at *
  generalize hnr : r.length = nr at *
  generalize hnu : u.length = nu at *
  clear hna hnb hnp hnr hnu
  refine wp_region_noPanic ?_
  simp only [List.append_eq, List.cons_append, List.nil_append]
  go_region_held3 (fun w' => w'.cell? ⟨w.heap.size, 0, none⟩ = some (.slice pa na ca) ∧ w'.cell? ⟨w.heap.size + 1, 0, none⟩ = some (.slice pb nb cb) ∧ w'.cell? ⟨w5.heap.size, 0, none⟩ = some (.slice pp np cp) ∧ w'.cell? ⟨w7.heap.size, 0, none⟩ = some (.slice pq np cq) ∧ w'.cell? ⟨w9.heap.size, 0, none⟩ = some (.slice pr nr cr) ∧ w'.cell? ⟨w11.heap.size, 0, none⟩ = some (.slice ps nr cs) ∧ w'.cell? ⟨w13.heap.size, 0, none⟩ = some (.slice pu nu cu) ∧ w'.cell? ⟨w15.heap.size, 0, none⟩ = some (.slice pv nu cv) ∧ Below w16.heap.size w16 w') (exact KS.out _ (by first | assumption | exact Below.drew (by assumption) | exact Below.drew (Below.refl _ _))) (first
    | (go_at_call 28; (with_reducible refine (K1.out _ (by first | assumption | exact Below.drew (Below.refl _ _))).mono ?_); rintro e w' ⟨rfl, hb⟩; have kb : Below w16.heap.size w16 w' := below_step (by first | assumption | exact Below.drew (Below.refl _ _)) hb; clear hb)
    | (go_at_call 40; (with_reducible refine (K2.out _ (by first | assumption | exact Below.drew (Below.refl _ _))).mono ?_); rintro e w' ⟨rfl, hb⟩; have kb : Below w16.heap.size w16 w' := below_step (by first | assumption | exact Below.drew (Below.refl _ _)) hb; clear hb)
    | (go_at_call 26; (with_reducible refine (K3.out _ (by first | assumption | exact Below.drew (Below.refl _ _))).mono ?_); rintro e w' ⟨rfl, hb⟩; have kb : Below w16.heap.size w16 w' := below_step (by first | assumption | exact Below.drew (Below.refl _ _)) hb; clear hb)
    | (go_at_call 56; (with_reducible refine (K4.out _ (by first | assumption | exact Below.drew (Below.refl _ _))).mono ?_); rintro e w' ⟨rfl, hb⟩; have kb : Below w16.heap.size w16 w' := below_step (by first | assumption | exact Below.drew (Below.refl _ _)) hb; clear hb)
    | (go_at_call 25; (with_reducible refine (K5.out _ (by first | assumption | exact Below.drew (Below.refl _ _))).mono ?_); rintro e w' ⟨rfl, hb⟩; have kb : Below w16.heap.size w16 w' := below_step (by first | assumption | exact Below.drew (Below.refl _ _)) hb; clear hb)
    | (go_at_call 31; (with_reducible refine (K6.out _ (by first | assumption | exact Below.drew (Below.refl _ _))).mono ?_); rintro e w' ⟨rfl, hb⟩; have kb : Below w16.heap.size w16 w' := below_step (by first | assumption | exact Below.drew (Below.refl _ _)) hb; clear hb)
    | (go_at_call 29; (with_reducible refine (K7.out _ (by first | assumption | exact Below.drew (Below.refl _ _))).mono ?_); rintro e w' ⟨rfl, hb⟩; have kb : Below w16.heap.size w16 w' := below_step (by first | assumption | exact Below.drew (Below.refl _ _)) hb; clear hb)
    | (go_at_call 57; (with_reducible refine (K8.out _ (by first | assumption | exact Below.drew (Below.refl _ _))).mono ?_); rintro e w' ⟨rfl, hb⟩; have kb : Below w16.heap.size w16 w' := below_step (by first | assumption | exact Below.drew (Below.refl _ _)) hb; clear hb)
    | (go_at_call 30; (with_reducible refine (K9.out _ (by first | assumption | exact Below.drew (Below.refl _ _))).mono ?_); rintro e w' ⟨rfl, hb⟩; have kb : Below w16.heap.size w16 w' := below_step (by first | assumption | exact Below.drew (Below.refl _ _)) hb; clear hb)
    | (go_at_call 58; (with_reducible refine (K10.out _ (by first | assumption | exact Below.drew (Below.refl _ _))).mono ?_); rintro e w' ⟨rfl, hb⟩; have kb : Below w16.heap.size w16 w' := below_step (by first | assumption | exact Below.drew (Below.refl _ _)) hb; clear hb)
    | (go_at_call 27; (with_reducible refine (K11.out _ (by first | assumption | exact Below.drew (Below.refl _ _))).mono ?_); rintro e w' ⟨rfl, hb⟩; have kb : Below w16.heap.size w16 w' := below_step (by first | assumption | exact Below.drew (Below.refl _ _)) hb; clear hb)
    | (go_at_call 17; (with_reducible refine (K12.out _ (by first | assumption | exact Below.drew (Below.refl _ _))).mono ?_); rintro e w' ⟨rfl, hb⟩; have kb : Below w16.heap.size w16 w' := below_step (by first | assumption | exact Below.drew (Below.refl _ _)) hb; clear hb)
    | (go_at_call 17; (with_reducible refine (K13.out _ (by first | assumption | exact Below.drew (Below.refl _ _))).mono ?_); rintro e w' ⟨rfl, hb⟩; have kb : Below w16.heap.size w16 w' := below_step (by first | assumption | exact Below.drew (Below.refl _ _)) hb; clear hb)
    | (go_at_call 17; (with_reducible refine (K14.out _ (by first | assumption | exact Below.drew (Below.refl _ _))).mono ?_); rintro e w' ⟨rfl, hb⟩; have kb : Below w16.heap.size w16 w' := below_step (by first | assumption | exact Below.drew (Below.refl _ _)) hb; clear hb)
    | (go_at_call 17; (with_reducible refine (K15.out _ (by first | assumption | exact Below.drew (Below.refl _ _))).mono ?_); rintro e w' ⟨rfl, hb⟩; have kb : Below w16.heap.size w16 w' := below_step (by first | assumption | exact Below.drew (Below.refl _ _)) hb; clear hb))
  refine NoPanic.normal ?_
  go_wp2
  go_ret
  exact ⟨rfl, below_step BWK.out (by assumption)⟩
end Go.Proofs.Ytdpnkbbphfcngaa
