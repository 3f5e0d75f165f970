/- The law RegionWithin: the walk. -/
import Derived.Test.YtdpnkbbphfcngaaGGood
import Derived.Test.YtdpnkbbphfcngaaGWth
import Derived.Test.YtdpnkbbphfcngaaGY
namespace Go.Proofs.Ytdpnkbbphfcngaa
open Go.RowKit Go.Shelf

set_option maxHeartbeats 8000000 in
set_option maxRecDepth 100000 in
theorem within_law (v : Value) (n : Nat) (g : Nat → Int) (W : World) (hI : IntsAt .i64 W v n g) (hcap : CapAt v) :
    Calls Try.prog 7 #[v] W fun e w' => e = .returned (.bool true) ∧ Below W.heap.size W w' := by
  have hNew := new_any v n g W hI hcap
  clear hI hcap
  go_enter Try.func7, Try.ntmps7
  go_wp2_with fail
  refine hNew.mono ?_
  rintro e w1 ⟨rfl, hb1, ht1, hz⟩
  have hRg := region_any w1 W.heap.size ht1 6 (by omega) (by omega) 2 (by omega)
  clear hNew ht1
  go_wp2_with fail
  refine hRg.mono ?_
  rintro e w2 ⟨va, a, rfl, hD⟩
  have hRg2 := region_any w2 W.heap.size hD.tape 6 (by omega) (by omega) 3 (by omega)
  clear hRg
  go_wp2_with fail
  refine hRg2.mono ?_
  rintro e w3 ⟨vb, b, rfl, hE⟩
  have Ga : Hid (Good 6 a) := drawn_good (n := 6) hD (by decide)
  have Gb : Hid (Good 6 b) := drawn_good (n := 6) hE (by decide)
  have RA : Hid (RectsAt w3 va a) := hD.at_.but hE.gr (fun k hk e => by have := hD.new k hk; have e' : W.heap.size = k := (by simpa using e); omega)
  have RB : Hid (RectsAt w3 vb b) := hE.at_
  have BW : Hid (Below W.heap.size W w3) := by
    have h1 : w1.grownBy w3 (some W.heap.size) := gr_and hD.gr hE.gr (fun j hj => .inr hj)
    exact ⟨h1.os.trans hb1.os, h1.tape.trans hb1.tape, h1.output.trans hb1.output, Nat.le_trans hb1.size h1.size, fun k hk => (h1.block k (by have := hb1.size; omega) (by simp; omega)).trans (hb1.block k hk)⟩
  clear hRg2 hD hE hb1 hz
  obtain ⟨pa, ca, rfl⟩ := RA.out.shape
  obtain ⟨pb, cb, rfl⟩ := RB.out.shape
  have hT := two_at w3 (.slice none 0 0) (.slice none 0 0)
  have x0 := hT.x0.free 0
  have x1 := hT.x0.cell (i := 0) rfl
  have x2 := (hT.x1.other (b' := w3.heap.size) (j := 0) (by omega) (.slice pa a.length ca)).free 0
  have x3 := (hT.x1.other (b' := w3.heap.size) (j := 0) (by omega) (.slice pa a.length ca)).cell (i := 0) rfl
  clear hT
  go_wp2_with fail
  clear x0 x1 x2 x3
  have hT := two_at w3 (.slice pa a.length ca) (.slice pb b.length cb)
  have R4A := Lib.hid (RA.out.below hT.bw)
  have R4B := Lib.hid (RB.out.below hT.bw)
  have XA4 := Lib.hid hT.x0
  have XB4 := Lib.hid hT.x1
  have BW4 := Lib.hid (below_step BW.out hT.bw)
  clear hT
  have x0 : True := trivial
  have x1 : True := trivial
  generalize (w3.alloc (.cells #[.slice pa a.length ca] 24)).alloc (.cells #[.slice pb b.length cb] 24) = w4 at *
  refine (without_any _ _ _ _ _ R4A.out R4B.out).mono ?_
  rintro e w5 ⟨⟨vr, r, c, rfl, hr, hv, hq⟩, hb⟩
  obtain ⟨rfl, gr, ir⟩ := comb_good rfl (by decide) Ga.out Gb.out hq
  have Gr := Lib.hid gr
  have Ir := Lib.hid ir
  obtain ⟨pr, cr, rfl⟩ := hr.shape
  have hbb : Below w4.heap.size w4 (w5.alloc (.cells #[.slice pr r.length cr] 24)) := hb.alloc hb.size _
  have R6A := Lib.hid (R4A.out.below hbb)
  have R6B := Lib.hid (R4B.out.below hbb)
  have XA6 := Lib.hid (XA4.out.below hbb)
  have XB6 := Lib.hid (XB4.out.below hbb)
  have BW6 := Lib.hid (below_step BW4.out hbb)
  have Xr := Lib.hid (BoxAt.new w5 #[.slice pr r.length cr] 24)
  have Rr := Lib.hid (hr.below ((Below.refl _ _).alloc (Nat.le_refl _) (.cells #[.slice pr r.length cr] 24)))
  have HB6 := Lib.hid hbb
  clear hr hv hq hb gr ir hbb x0 x1
  have x0 := XA6.out.cell (i := 0) rfl
  have x1 := XB6.out.cell (i := 0) rfl
  have x2 := (BoxAt.new w5 #[.slice none 0 0] 24).free 0
  go_wp2_with fail
  clear x2
  generalize w5.alloc (.cells #[.slice pr r.length cr] 24) = w6 at *
  refine (both_any _ _ _ _ _ R6A.out R6B.out).mono ?_
  rintro e w7 ⟨⟨vs, s, c, rfl, hr, hv, hq⟩, hb⟩
  obtain ⟨rfl, gs, is⟩ := comb_good rfl (by decide) Ga.out Gb.out hq
  have Gs := Lib.hid gs
  have Is := Lib.hid is
  obtain ⟨ps, cs, rfl⟩ := hr.shape
  have hbb : Below w6.heap.size w6 (w7.alloc (.cells #[.slice ps s.length cs] 24)) := hb.alloc hb.size _
  have R8A := Lib.hid (R6A.out.below hbb)
  have R8B := Lib.hid (R6B.out.below hbb)
  have XA8 := Lib.hid (XA6.out.below hbb)
  have XB8 := Lib.hid (XB6.out.below hbb)
  have BW8 := Lib.hid (below_step BW6.out hbb)
  have Xs := Lib.hid (BoxAt.new w7 #[.slice ps s.length cs] 24)
  have Rs := Lib.hid (hr.below ((Below.refl _ _).alloc (Nat.le_refl _) (.cells #[.slice ps s.length cs] 24)))
  have HB8 := Lib.hid hbb
  clear hr hv hq hb gs is hbb x0 x1
  have x0 := XA8.out.cell (i := 0) rfl
  have x1 := XB8.out.cell (i := 0) rfl
  have x2 := (BoxAt.new w7 #[.slice none 0 0] 24).free 0
  go_wp2_with fail
  clear x2
  generalize w7.alloc (.cells #[.slice ps s.length cs] 24) = w8 at *
  refine (union_any _ _ _ _ _ R8A.out R8B.out).mono ?_
  rintro e w9 ⟨⟨vu, u, c, rfl, hr, hv, hq⟩, hb⟩
  obtain ⟨rfl, gu, iu⟩ := comb_good rfl (by decide) Ga.out Gb.out hq
  have Gu := Lib.hid gu
  have Iu := Lib.hid iu
  obtain ⟨pu, cu, rfl⟩ := hr.shape
  have hbb : Below w8.heap.size w8 (w9.alloc (.cells #[.slice pu u.length cu] 24)) := hb.alloc hb.size _
  have R10A := Lib.hid (R8A.out.below hbb)
  have R10B := Lib.hid (R8B.out.below hbb)
  have XA10 := Lib.hid (XA8.out.below hbb)
  have XB10 := Lib.hid (XB8.out.below hbb)
  have BW10 := Lib.hid (below_step BW8.out hbb)
  have Xu := Lib.hid (BoxAt.new w9 #[.slice pu u.length cu] 24)
  have Ru := Lib.hid (hr.below ((Below.refl _ _).alloc (Nat.le_refl _) (.cells #[.slice pu u.length cu] 24)))
  have HB10 := Lib.hid hbb
  clear hr hv hq hb gu iu hbb x0 x1
  have x0 := XA10.out.cell (i := 0) rfl
  have x1 := XB10.out.cell (i := 0) rfl
  have x2 := (BoxAt.new w9 #[.slice none 0 0] 24).free 0
  go_wp2_with fail
  clear x2
  generalize w9.alloc (.cells #[.slice pu u.length cu] 24) = w10 at *
  clear x0 x1
  have Xr10 := Lib.hid ((Xr.out.below HB8.out).below HB10.out)
  have Xs10 := Lib.hid (Xs.out.below HB10.out)
  have Rr10 := Lib.hid ((Rr.out.below HB8.out).below HB10.out)
  have Rs10 := Lib.hid (Rs.out.below HB10.out)
  have e1 : (comL a b == areaL a) = (areaL r == 0) := by
    rw [Bool.eq_iff_iff, beq_iff_eq, beq_iff_eq]
    exact (sub_cnt Ga.out Gb.out).trans (sub_without Gr.out Ir.out).symm
  have e2 : decide (u = b) = (areaL r == 0) := by
    rw [Bool.eq_iff_iff, decide_eq_true_eq, beq_iff_eq]
    exact (sub_union Gb.out Gu.out Iu.out).trans (sub_without Gr.out Ir.out).symm
  have e3 : areaL s = comL a b := both_area Ga.out Gb.out Gs.out Is.out
  have e4 : (comL s a == areaL s) = true := by
    rw [beq_iff_eq]
    exact (sub_cnt Gs.out Ga.out).2 fun x y h => by rw [Is.out] at h; simp at h; exact h.1
  have e5 : (comL a u == areaL a) = true := by
    rw [beq_iff_eq]
    exact (sub_cnt Ga.out Gu.out).2 fun x y h => by rw [Iu.out, h]; rfl
  have K1 := Lib.hid (fun (w' : World) (h : Below w10.heap.size w10 w') => (show Calls Try.prog 29 #[.agg #[.slice pa a.length ca], .agg #[.slice pb b.length cb]] w' fun e w'' => e = .returned (.bool (areaL r == 0)) ∧ Below w'.heap.size w' w'' from by rw [← e1]; exact within_yes _ _ _ _ w' (R10A.out.below h) (R10B.out.below h) Ga.out.valid Gb.out.valid))
  have K2 := Lib.hid (fun (w' : World) (h : Below w10.heap.size w10 w') => area_any _ _ w' (Rr10.out.below h))
  have K3 := Lib.hid (fun (w' : World) (h : Below w10.heap.size w10 w') => meets_yes _ _ _ _ w' (R10A.out.below h) (R10B.out.below h) Ga.out.valid Gb.out.valid)
  have K4 := Lib.hid (fun (w' : World) (h : Below w10.heap.size w10 w') => area_any _ _ w' (Rs10.out.below h))
  have K5 := Lib.hid (fun (w' : World) (h : Below w10.heap.size w10 w') => (show Calls Try.prog 27 #[.agg #[.slice pu u.length cu], .agg #[.slice pb b.length cb]] w' fun e w'' => e = .returned (.bool (areaL r == 0)) ∧ Below w'.heap.size w' w'' from by rw [← e2]; exact same_any _ _ _ _ w' (Ru.out.below h) (R10B.out.below h) (Nat.le_trans Gu.out.len (by decide)) (Nat.le_trans Gb.out.len (by decide))))
  have K6 := Lib.hid (fun (w' : World) (h : Below w10.heap.size w10 w') => (show Calls Try.prog 29 #[.agg #[.slice ps s.length cs], .agg #[.slice pa a.length ca]] w' fun e w'' => e = .returned (.bool true) ∧ Below w'.heap.size w' w'' from by rw [← e4]; exact within_yes _ _ _ _ w' (Rs10.out.below h) (R10A.out.below h) Gs.out.valid Ga.out.valid))
  have K7 := Lib.hid (fun (w' : World) (h : Below w10.heap.size w10 w') => (show Calls Try.prog 29 #[.agg #[.slice pa a.length ca], .agg #[.slice pu u.length cu]] w' fun e w'' => e = .returned (.bool true) ∧ Below w'.heap.size w' w'' from by rw [← e5]; exact within_yes _ _ _ _ w' (R10A.out.below h) (Ru.out.below h) Ga.out.valid Gu.out.valid))
  have E3 := Lib.hid e3
  have KS := Lib.hid (fun (w' : World) (h : Below w10.heap.size w10 w') => (⟨(XA10.out.below h).cell (i := 0) rfl, (XB10.out.below h).cell (i := 0) rfl, (Xr10.out.below h).cell (i := 0) rfl, (Xs10.out.below h).cell (i := 0) rfl, (Xu.out.below h).cell (i := 0) rfl, h⟩ : w'.cell? ⟨w3.heap.size, 0, none⟩ = some (.slice pa a.length ca) ∧ w'.cell? ⟨w3.heap.size + 1, 0, none⟩ = some (.slice pb b.length cb) ∧ w'.cell? ⟨w5.heap.size, 0, none⟩ = some (.slice pr r.length cr) ∧ w'.cell? ⟨w7.heap.size, 0, none⟩ = some (.slice ps s.length cs) ∧ w'.cell? ⟨w9.heap.size, 0, none⟩ = some (.slice pu u.length cu) ∧ Below w10.heap.size w10 w'))
  clear e1 e2 e3 e4 e5 Ga Gb BW RA RB R4A R4B XA4 XB4 BW4 R6A R6B XA6 XB6 BW6 Xr Rr HB6 R8A R8B XA8 XB8 BW8 Xs Rs HB8 R10A R10B XA10 XB10 HB10 Xu Ru Xr10 Xs10 Rr10 Rs10 Ir Is Iu Gu
  generalize hna : a.length = na at *
  generalize hnb : b.length = nb at *
  generalize hnr : r.length = nr at *
  generalize hns : s.length = ns at *
  generalize hnu : u.length = nu at *
  clear hna hnb hnr hns hnu
  go_region_held3 (fun w' => w'.cell? ⟨w3.heap.size, 0, none⟩ = some (.slice pa na ca) ∧ w'.cell? ⟨w3.heap.size + 1, 0, none⟩ = some (.slice pb nb cb) ∧ w'.cell? ⟨w5.heap.size, 0, none⟩ = some (.slice pr nr cr) ∧ w'.cell? ⟨w7.heap.size, 0, none⟩ = some (.slice ps ns cs) ∧ w'.cell? ⟨w9.heap.size, 0, none⟩ = some (.slice pu nu cu) ∧ Below w10.heap.size w10 w') (exact KS.out _ (by first | assumption | exact Below.drew (by assumption) | exact Below.drew (Below.refl _ _))) (first
    | (go_at_call 29; (with_reducible refine (K1.out _ (by first | assumption | exact Below.drew (Below.refl _ _))).mono ?_); rintro e w' ⟨rfl, hb⟩; have kb : Below w10.heap.size w10 w' := below_step (by first | assumption | exact Below.drew (Below.refl _ _)) hb; clear hb)
    | (go_at_call 29; (with_reducible refine (K6.out _ (by first | assumption | exact Below.drew (Below.refl _ _))).mono ?_); rintro e w' ⟨rfl, hb⟩; have kb : Below w10.heap.size w10 w' := below_step (by first | assumption | exact Below.drew (Below.refl _ _)) hb; clear hb)
    | (go_at_call 29; (with_reducible refine (K7.out _ (by first | assumption | exact Below.drew (Below.refl _ _))).mono ?_); rintro e w' ⟨rfl, hb⟩; have kb : Below w10.heap.size w10 w' := below_step (by first | assumption | exact Below.drew (Below.refl _ _)) hb; clear hb)
    | (go_at_call 26; (with_reducible refine (K2.out _ (by first | assumption | exact Below.drew (Below.refl _ _))).mono ?_); rintro e w' ⟨z, rfl, hz, hb⟩; obtain rfl := hz.1 Gr.out.valid; clear hz; have kb : Below w10.heap.size w10 w' := below_step (by first | assumption | exact Below.drew (Below.refl _ _)) hb; clear hb)
    | (go_at_call 26; (with_reducible refine (K4.out _ (by first | assumption | exact Below.drew (Below.refl _ _))).mono ?_); rintro e w' ⟨z, rfl, hz, hb⟩; obtain rfl := (hz.1 Gs.out.valid).trans E3.out; clear hz; have kb : Below w10.heap.size w10 w' := below_step (by first | assumption | exact Below.drew (Below.refl _ _)) hb; clear hb)
    | (go_at_call 30; (with_reducible refine (K3.out _ (by first | assumption | exact Below.drew (Below.refl _ _))).mono ?_); rintro e w' ⟨rfl, hb⟩; have kb : Below w10.heap.size w10 w' := below_step (by first | assumption | exact Below.drew (Below.refl _ _)) hb; clear hb)
    | (go_at_call 27; (with_reducible refine (K5.out _ (by first | assumption | exact Below.drew (Below.refl _ _))).mono ?_); rintro e w' ⟨rfl, hb⟩; have kb : Below w10.heap.size w10 w' := below_step (by first | assumption | exact Below.drew (Below.refl _ _)) hb; clear hb)
    | (go_at_call 12; (with_reducible refine ((fun (_ : Below w10.heap.size w10 _) => awake_any _) (by first | assumption | exact Below.drew (Below.refl _ _))).mono ?_); rintro e w' ⟨rfl, hb⟩; have kb : Below w10.heap.size w10 w' := below_step (by first | assumption | exact Below.drew (Below.refl _ _)) hb; clear hb))
  go_wp2
  go_ret
  exact ⟨rfl, below_step BW10.out (by assumption)⟩
end Go.Proofs.Ytdpnkbbphfcngaa
