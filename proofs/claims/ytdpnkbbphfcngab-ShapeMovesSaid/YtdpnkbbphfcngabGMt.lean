/- region.Meets of valid regions. -/
import Derived.Test.YtdpnkbbphfcngabGRW
import Derived.Test.YtdpnkbbphfcngabGCom
import Derived.Deep.RegionHeld3
namespace Go.Proofs.Ytdpnkbbphfcngab
open Go.RowKit Go.Shelf

set_option maxHeartbeats 4000000 in
set_option maxRecDepth 100000 in
theorem meets_yes (va vb : Value) (a b : List Rc) (w : World) (ha : RectsAt w va a) (hb : RectsAt w vb b) (hVa : ValidP a) (hVb : ValidP b) :
    Calls Try.prog 37 #[.agg #[va], .agg #[vb]] w fun e w' => e = .returned (.bool (decide (comL a b > 0))) ∧ Below w.heap.size w w' := by
  have HT := Lib.hid (two_at w va vb)
  obtain ⟨pa, ca, rfl⟩ := ha.shape
  obtain ⟨pb, cb, rfl⟩ := hb.shape
  have hA2 : RectsAt ((w.alloc (.cells #[.slice pa a.length ca] 25)).alloc (.cells #[.slice pb b.length cb] 25)) (.slice pa a.length ca) a := ha.below HT.out.bw
  have hB2 : RectsAt ((w.alloc (.cells #[.slice pa a.length ca] 25)).alloc (.cells #[.slice pb b.length cb] 25)) (.slice pb b.length cb) b := hb.below HT.out.bw
  have HA := Lib.hid hA2
  have HB := Lib.hid hB2
  have VA := Lib.hid hVa
  have VB := Lib.hid hVb
  clear hA2 hB2 ha hb hVa hVb
  go_enter Try.func37, Try.ntmps37
  go_wp2_with fail
  generalize (w.alloc (.cells #[.slice pa a.length ca] 25)).alloc (.cells #[.slice pb b.length cb] 25) = w2 at *
  have KS := Lib.hid (fun (w' : World) (h : Below w2.heap.size w2 w') => (⟨(HT.out.x0.below h).cell (i := 0) rfl, (HT.out.x1.below h).cell (i := 0) rfl, h⟩ : w'.cell? ⟨w.heap.size, 0, none⟩ = some (.slice pa a.length ca) ∧ w'.cell? ⟨w.heap.size + 1, 0, none⟩ = some (.slice pb b.length cb) ∧ Below w2.heap.size w2 w'))
  have K1 := Lib.hid (fun (w' : World) (h : Below w2.heap.size w2 w') => valid_any _ _ w' (HA.out.below h))
  have K2 := Lib.hid (fun (w' : World) (h : Below w2.heap.size w2 w') => valid_any _ _ w' (HB.out.below h))
  have K3 := Lib.hid (fun (w' : World) (h : Below w2.heap.size w2 w') => common_any _ _ _ _ w' (HA.out.below h) (HB.out.below h) VA.out.2.1 VB.out.2.1 VA.out.1 VB.out.1)
  generalize a.length = na at *
  generalize b.length = nb at *
  obtain ⟨c0, c1, kb0⟩ := KS.out _ (Below.refl _ _)
  go_wp2_with (first
    | (go_at_call 34; (with_reducible refine (K1.out _ (by assumption)).mono ?_); rintro e w' ⟨hr, hb⟩; obtain rfl := hr.is_yes VA.out; have kb : Below w2.heap.size w2 w' := below_step (by assumption) hb; clear hb hr c0 c1; obtain ⟨c0, c1, _⟩ := KS.out _ kb)
    | (go_at_call 34; (with_reducible refine (K2.out _ (by assumption)).mono ?_); rintro e w' ⟨hr, hb⟩; obtain rfl := hr.is_yes VB.out; have kb : Below w2.heap.size w2 w' := below_step (by assumption) hb; clear hb hr c0 c1; obtain ⟨c0, c1, _⟩ := KS.out _ kb)
    | (go_at_call 58; (with_reducible refine (K3.out _ (by assumption)).mono ?_); rintro e w' ⟨rfl, hb⟩; have kb : Below w2.heap.size w2 w' := below_step (by assumption) hb; clear hb c0 c1; obtain ⟨c0, c1, _⟩ := KS.out _ kb))
  go_ret
  exact ⟨rfl, below_step HT.out.bw (by assumption)⟩
end Go.Proofs.Ytdpnkbbphfcngab
