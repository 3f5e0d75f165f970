/- region.Within, region.Meets of any regions. -/
import Derived.Test.YtdpnkbbphfcngaaGGood
import Derived.Test.YtdpnkbbphfcngaaGWth
namespace Go.Proofs.Ytdpnkbbphfcngaa
open Go.RowKit Go.Shelf

theorem ValidP.good {l : List Rc} (h : ValidP l) : Good 16384 l := by
  refine ⟨h.2.2, h.2.1, h.1, fun x y hxy => ?_⟩
  obtain ⟨r, hr, hi⟩ := inside_iff.1 hxy
  have := insR_iff.1 hi
  obtain ⟨a, b, c, d, e, f⟩ := h.2.1 r hr
  omega
theorem meet_cnt {n m : Nat} {a b : List Rc} (ha : Good n a) (hb : Good m b) : comL a b > 0 ↔ ∃ x y, insideB a x y = true ∧ insideB b x y = true := by
  rw [comL_cnt ha hb]
  constructor
  · intro h
    apply Classical.byContradiction
    intro hn
    have : cnt 16384 (fun x y => insideB a x y && insideB b x y) = 0 := cnt_zero.2 fun x y _ _ _ _ => by
      cases e1 : insideB a x y
      · rfl
      · cases e2 : insideB b x y
        · rfl
        · exact absurd ⟨x, y, e1, e2⟩ hn
    omega
  · rintro ⟨x, y, h1, h2⟩
    obtain ⟨g1, g2, g3, g4⟩ := ha.grid h1
    have := cnt_one (N := 16384) (K := fun x y => insideB a x y && insideB b x y) (x := x) (y := y) (by simp [h1, h2]) g1 g2 g3 g4
    omega

set_option maxHeartbeats 2000000 in
set_option maxRecDepth 100000 in
theorem within_any (va vb : Value) (a b : List Rc) (w : World) (ha : RectsAt w va a) (hb : RectsAt w vb b) :
    Calls Try.prog 29 #[.agg #[va], .agg #[vb]] w fun e w' => RetB e (ValidP a ∧ ValidP b ∧ (Sub a b)) ∧ Below w.heap.size w w' := by
  by_cases hva : ValidP a
  · by_cases hvb : ValidP b
    · refine (within_yes va vb a b w ha hb hva hvb).mono fun e w' ⟨he, hb'⟩ => ⟨⟨_, he, ?_⟩, hb'⟩
      rw [beq_iff_eq, sub_cnt hva.good hvb.good]
      exact ⟨fun h => ⟨hva, hvb, h⟩, fun h => h.2.2⟩
    · have PA := Lib.hid hva
      have PB := Lib.hid hvb
      clear hva hvb
      have HT := Lib.hid (two_at w va vb)
      have HVa := Lib.hid (fun (w' : World) (h : Below w.heap.size w w') => valid_any va a w' (ha.below h))
      have HVb := Lib.hid (fun (w' : World) (h : Below w.heap.size w w') => valid_any vb b w' (hb.below h))
      obtain ⟨pa, ca, rfl⟩ := ha.shape
      obtain ⟨pb, cb, rfl⟩ := hb.shape
      clear ha hb
      go_enter Try.func29, Try.ntmps29
      go_wp2_with fail
      generalize hw2 : (w.alloc (.cells #[.slice pa a.length ca] 24)).alloc (.cells #[.slice pb b.length cb] 24) = w2 at *
      clear hw2
      have KS := Lib.hid (fun (w' : World) (h : Below w2.heap.size w2 w') => (⟨(HT.out.x0.below h).cell (i := 0) rfl, (HT.out.x1.below h).cell (i := 0) rfl, h⟩ : w'.cell? ⟨w.heap.size, 0, none⟩ = some (.slice pa a.length ca) ∧ w'.cell? ⟨w.heap.size + 1, 0, none⟩ = some (.slice pb b.length cb) ∧ Below w2.heap.size w2 w'))
      refine wp_region_noPanic ?_
      refine wp_region_held_drew (S := (fun w' => w'.cell? ⟨w.heap.size, 0, none⟩ = some (.slice pa a.length ca) ∧ w'.cell? ⟨w.heap.size + 1, 0, none⟩ = some (.slice pb b.length cb) ∧ Below w2.heap.size w2 w')) (by kernel_rfl) ?_ (fun hHeld => ?_)
      · exact KS.out _ (by first | assumption | exact Below.drew (by assumption) | exact Below.drew (Below.refl _ _))
      refine wpAnyH_take (i := 0) (oi := ⟨some 5, _, _, _, _, _⟩) (v := ?_) rfl (by kernel_rfl) (by kernel_rfl) (by kernel_rfl) (fun _ _ _ h => h) (Or.inl ⟨by rfl, ?_⟩) (by assumption) ?_
      rotate_left
      · intro w hSw
        try dsimp only at hSw
        go_simp
        try with_reducible rfl
      try simp only [Act.put, List.setIfInBounds_toArray, List.set_cons_zero, List.set_cons_succ]
      refine wpAnyH_ready (rs := [1]) (by kernel_rfl) (by simp) ?_
      refine AllReadyH.cons (o := ⟨some 6, _, _, _, _, _⟩) rfl (fun K hK => ?_) AllReadyH.nil
      go_simp
      (first
      | (go_at_call 28; (with_reducible refine (HVa.out _ (below_step HT.out.bw (show Below w2.heap.size w2 _ from (by first | assumption | exact Below.drew (Below.refl _ _))))).mono ?_); rintro e w' ⟨hr, hb⟩; obtain rfl := hr.is_yes PA.out; have kb : Below w2.heap.size w2 w' := below_step (by first | assumption | exact Below.drew (Below.refl _ _)) hb; clear hb hr)
      | (go_at_call 28; (with_reducible refine (HVb.out _ (below_step HT.out.bw (show Below w2.heap.size w2 _ from (by first | assumption | exact Below.drew (Below.refl _ _))))).mono ?_); rintro e w' ⟨hr, hb⟩; obtain rfl := hr.is_no PB.out; have kb : Below w2.heap.size w2 w' := below_step (by first | assumption | exact Below.drew (Below.refl _ _)) hb; clear hb hr))
      first | (refine hK.out _ _ ?_ (fun hHeld => ?_)) | (go_wp2_with fail; refine hK.out _ _ ?_ (fun hHeld => ?_))
      · exact KS.out _ (by first | assumption | exact Below.drew (by assumption) | exact Below.drew (Below.refl _ _))
      clear hK K
      try simp only [Act.put, List.setIfInBounds_toArray, List.set_cons_zero, List.set_cons_succ]
      refine wpAnyH_take (i := 2) (oi := ⟨some 7, _, _, _, _, _⟩) (v := ?_) rfl (by kernel_rfl) (by kernel_rfl) (by kernel_rfl) (fun _ _ _ h => h) (Or.inl ⟨by rfl, ?_⟩) (by assumption) ?_
      rotate_left
      · intro w hSw
        try dsimp only at hSw
        go_simp
        try with_reducible rfl
      try simp only [Act.put, List.setIfInBounds_toArray, List.set_cons_zero, List.set_cons_succ]
      refine wpAnyH_take (i := 3) (oi := ⟨some 8, _, _, _, _, _⟩) (v := ?_) rfl (by kernel_rfl) (by kernel_rfl) (by kernel_rfl) (fun _ _ _ h => h) (Or.inl ⟨by rfl, ?_⟩) (by assumption) ?_
      rotate_left
      · intro w hSw
        try dsimp only at hSw
        go_simp
        try with_reducible rfl
      try simp only [Act.put, List.setIfInBounds_toArray, List.set_cons_zero, List.set_cons_succ]
      refine wpAnyH_ready (rs := [4]) (by kernel_rfl) (by simp) ?_
      refine AllReadyH.cons (o := ⟨some 9, _, _, _, _, _⟩) rfl (fun K hK => ?_) AllReadyH.nil
      go_simp
      (first
      | (go_at_call 28; (with_reducible refine (HVa.out _ (below_step HT.out.bw (show Below w2.heap.size w2 _ from (by first | assumption | exact Below.drew (Below.refl _ _))))).mono ?_); rintro e w' ⟨hr, hb⟩; obtain rfl := hr.is_yes PA.out; have kb : Below w2.heap.size w2 w' := below_step (by first | assumption | exact Below.drew (Below.refl _ _)) hb; clear hb hr)
      | (go_at_call 28; (with_reducible refine (HVb.out _ (below_step HT.out.bw (show Below w2.heap.size w2 _ from (by first | assumption | exact Below.drew (Below.refl _ _))))).mono ?_); rintro e w' ⟨hr, hb⟩; obtain rfl := hr.is_no PB.out; have kb : Below w2.heap.size w2 w' := below_step (by first | assumption | exact Below.drew (Below.refl _ _)) hb; clear hb hr))
      first | (refine hK.out _ _ ?_ (fun hHeld => ?_)) | (go_wp2_with fail; refine hK.out _ _ ?_ (fun hHeld => ?_))
      · exact KS.out _ (by first | assumption | exact Below.drew (by assumption) | exact Below.drew (Below.refl _ _))
      clear hK K
      try simp only [Act.put, List.setIfInBounds_toArray, List.set_cons_zero, List.set_cons_succ]
      refine wpAnyH_take (i := 5) (oi := ⟨some 10, _, _, _, _, _⟩) (v := ?_) rfl (by kernel_rfl) (by kernel_rfl) (by kernel_rfl) (fun _ _ _ h => h) (Or.inl ⟨by rfl, ?_⟩) (by assumption) ?_
      rotate_left
      · intro w hSw
        try dsimp only at hSw
        go_simp
        try with_reducible rfl
      try simp only [Act.put, List.setIfInBounds_toArray, List.set_cons_zero, List.set_cons_succ]
      refine wpAnyH_take (i := 6) (oi := ⟨some 11, _, _, _, _, _⟩) (v := ?_) rfl (by kernel_rfl) (by kernel_rfl) (by kernel_rfl) (fun _ _ _ h => h) (Or.inl ⟨by rfl, ?_⟩) (by assumption) ?_
      rotate_left
      · intro w hSw
        try dsimp only at hSw
        go_simp
        try with_reducible rfl
      try simp only [Act.put, List.setIfInBounds_toArray, List.set_cons_zero, List.set_cons_succ]
      refine wpAnyH_take (i := 7) (oi := ⟨some 12, _, _, _, _, _⟩) (v := undef) rfl (by kernel_rfl) (by kernel_rfl) (by kernel_rfl) (fun _ _ _ h => h) (Or.inr ⟨?_, rfl⟩) (by assumption) ?_
      · simp [Region.wanted, yielded, undef]
      try simp only [Act.put, List.setIfInBounds_toArray, List.set_cons_zero, List.set_cons_succ]
      refine wpAnyH_take (i := 8) (oi := ⟨some 13, _, _, _, _, _⟩) (v := undef) rfl (by kernel_rfl) (by kernel_rfl) (by kernel_rfl) (fun _ _ _ h => h) (Or.inr ⟨?_, rfl⟩) (by assumption) ?_
      · simp [Region.wanted, yielded, undef]
      try simp only [Act.put, List.setIfInBounds_toArray, List.set_cons_zero, List.set_cons_succ]
      refine wpAnyH_take (i := 9) (oi := ⟨some 14, _, _, _, _, _⟩) (v := undef) rfl (by kernel_rfl) (by kernel_rfl) (by kernel_rfl) (fun _ _ _ h => h) (Or.inr ⟨?_, rfl⟩) (by assumption) ?_
      · simp [Region.wanted, yielded, undef]
      try simp only [Act.put, List.setIfInBounds_toArray, List.set_cons_zero, List.set_cons_succ]
      refine wpAnyH_take (i := 10) (oi := ⟨some 15, _, _, _, _, _⟩) (v := undef) rfl (by kernel_rfl) (by kernel_rfl) (by kernel_rfl) (fun _ _ _ h => h) (Or.inr ⟨?_, rfl⟩) (by assumption) ?_
      · simp [Region.wanted, yielded, undef]
      try simp only [Act.put, List.setIfInBounds_toArray, List.set_cons_zero, List.set_cons_succ]
      refine wpAnyH_take (i := 11) (oi := ⟨some 16, _, _, _, _, _⟩) (v := undef) rfl (by kernel_rfl) (by kernel_rfl) (by kernel_rfl) (fun _ _ _ h => h) (Or.inr ⟨?_, rfl⟩) (by assumption) ?_
      · simp [Region.wanted, yielded, undef]
      try simp only [Act.put, List.setIfInBounds_toArray, List.set_cons_zero, List.set_cons_succ]
      refine wpAnyH_take (i := 12) (oi := ⟨some 17, _, _, _, _, _⟩) (v := undef) rfl (by kernel_rfl) (by kernel_rfl) (by kernel_rfl) (fun _ _ _ h => h) (Or.inr ⟨?_, rfl⟩) (by assumption) ?_
      · simp [Region.wanted, yielded, undef]
      try simp only [Act.put, List.setIfInBounds_toArray, List.set_cons_zero, List.set_cons_succ]
      refine wpAnyH_take (i := 13) (oi := ⟨some 18, _, _, _, _, _⟩) (v := ?_) rfl (by kernel_rfl) (by kernel_rfl) (by kernel_rfl) (fun _ _ _ h => h) (Or.inl ⟨by rfl, ?_⟩) (by assumption) ?_
      rotate_left
      · intro w hSw
        try dsimp only at hSw
        go_simp
        try with_reducible rfl
      try simp only [Act.put, List.setIfInBounds_toArray, List.set_cons_zero, List.set_cons_succ]
      refine wpAnyH_take (i := 14) (oi := ⟨some 4, _, _, _, _, _⟩) (v := ?_) rfl (by kernel_rfl) (by kernel_rfl) (by kernel_rfl) (fun _ _ _ h => h) (Or.inl ⟨by rfl, ?_⟩) (by assumption) ?_
      rotate_left
      · intro w hSw
        try dsimp only at hSw
        go_simp
        try with_reducible rfl
      try simp only [Act.put, List.setIfInBounds_toArray, List.set_cons_zero, List.set_cons_succ]
      refine wpAnyH_done (by kernel_rfl) ?_ _
      refine NoPanic.normal ?_
      go_wp2
      go_ret
      exact ⟨RetB.no fun h => PB.out h.2.1, below_step HT.out.bw (by assumption)⟩
  · have PA := Lib.hid hva
    clear hva
    have HT := Lib.hid (two_at w va vb)
    have HVa := Lib.hid (fun (w' : World) (h : Below w.heap.size w w') => valid_any va a w' (ha.below h))
    have HVb := Lib.hid (fun (w' : World) (h : Below w.heap.size w w') => valid_any vb b w' (hb.below h))
    obtain ⟨pa, ca, rfl⟩ := ha.shape
    obtain ⟨pb, cb, rfl⟩ := hb.shape
    clear ha hb
    go_enter Try.func29, Try.ntmps29
    go_wp2_with fail
    generalize hw2 : (w.alloc (.cells #[.slice pa a.length ca] 24)).alloc (.cells #[.slice pb b.length cb] 24) = w2 at *
    clear hw2
    have KS := Lib.hid (fun (w' : World) (h : Below w2.heap.size w2 w') => (⟨(HT.out.x0.below h).cell (i := 0) rfl, (HT.out.x1.below h).cell (i := 0) rfl, h⟩ : w'.cell? ⟨w.heap.size, 0, none⟩ = some (.slice pa a.length ca) ∧ w'.cell? ⟨w.heap.size + 1, 0, none⟩ = some (.slice pb b.length cb) ∧ Below w2.heap.size w2 w'))
    refine wp_region_noPanic ?_
    refine wp_region_held_drew (S := (fun w' => w'.cell? ⟨w.heap.size, 0, none⟩ = some (.slice pa a.length ca) ∧ w'.cell? ⟨w.heap.size + 1, 0, none⟩ = some (.slice pb b.length cb) ∧ Below w2.heap.size w2 w')) (by kernel_rfl) ?_ (fun hHeld => ?_)
    · exact KS.out _ (by first | assumption | exact Below.drew (by assumption) | exact Below.drew (Below.refl _ _))
    refine wpAnyH_take (i := 0) (oi := ⟨some 5, _, _, _, _, _⟩) (v := ?_) rfl (by kernel_rfl) (by kernel_rfl) (by kernel_rfl) (fun _ _ _ h => h) (Or.inl ⟨by rfl, ?_⟩) (by assumption) ?_
    rotate_left
    · intro w hSw
      try dsimp only at hSw
      go_simp
      try with_reducible rfl
    try simp only [Act.put, List.setIfInBounds_toArray, List.set_cons_zero, List.set_cons_succ]
    refine wpAnyH_ready (rs := [1]) (by kernel_rfl) (by simp) ?_
    refine AllReadyH.cons (o := ⟨some 6, _, _, _, _, _⟩) rfl (fun K hK => ?_) AllReadyH.nil
    go_simp
    (first
      | (go_at_call 28; (with_reducible refine (HVa.out _ (below_step HT.out.bw (show Below w2.heap.size w2 _ from (by first | assumption | exact Below.drew (Below.refl _ _))))).mono ?_); rintro e w' ⟨hr, hb⟩; obtain rfl := hr.is_no PA.out; have kb : Below w2.heap.size w2 w' := below_step (by first | assumption | exact Below.drew (Below.refl _ _)) hb; clear hb hr))
    first | (refine hK.out _ _ ?_ (fun hHeld => ?_)) | (go_wp2_with fail; refine hK.out _ _ ?_ (fun hHeld => ?_))
    · exact KS.out _ (by first | assumption | exact Below.drew (by assumption) | exact Below.drew (Below.refl _ _))
    clear hK K
    try simp only [Act.put, List.setIfInBounds_toArray, List.set_cons_zero, List.set_cons_succ]
    refine wpAnyH_take (i := 2) (oi := ⟨some 7, _, _, _, _, _⟩) (v := ?_) rfl (by kernel_rfl) (by kernel_rfl) (by kernel_rfl) (fun _ _ _ h => h) (Or.inl ⟨by rfl, ?_⟩) (by assumption) ?_
    rotate_left
    · intro w hSw
      try dsimp only at hSw
      go_simp
      try with_reducible rfl
    try simp only [Act.put, List.setIfInBounds_toArray, List.set_cons_zero, List.set_cons_succ]
    refine wpAnyH_take (i := 3) (oi := ⟨some 8, _, _, _, _, _⟩) (v := undef) rfl (by kernel_rfl) (by kernel_rfl) (by kernel_rfl) (fun _ _ _ h => h) (Or.inr ⟨?_, rfl⟩) (by assumption) ?_
    · simp [Region.wanted, yielded, undef]
    try simp only [Act.put, List.setIfInBounds_toArray, List.set_cons_zero, List.set_cons_succ]
    refine wpAnyH_take (i := 4) (oi := ⟨some 9, _, _, _, _, _⟩) (v := undef) rfl (by kernel_rfl) (by kernel_rfl) (by kernel_rfl) (fun _ _ _ h => h) (Or.inr ⟨?_, rfl⟩) (by assumption) ?_
    · simp [Region.wanted, yielded, undef]
    try simp only [Act.put, List.setIfInBounds_toArray, List.set_cons_zero, List.set_cons_succ]
    refine wpAnyH_take (i := 5) (oi := ⟨some 10, _, _, _, _, _⟩) (v := ?_) rfl (by kernel_rfl) (by kernel_rfl) (by kernel_rfl) (fun _ _ _ h => h) (Or.inl ⟨by rfl, ?_⟩) (by assumption) ?_
    rotate_left
    · intro w hSw
      try dsimp only at hSw
      go_simp
      try with_reducible rfl
    try simp only [Act.put, List.setIfInBounds_toArray, List.set_cons_zero, List.set_cons_succ]
    refine wpAnyH_take (i := 6) (oi := ⟨some 11, _, _, _, _, _⟩) (v := ?_) rfl (by kernel_rfl) (by kernel_rfl) (by kernel_rfl) (fun _ _ _ h => h) (Or.inl ⟨by rfl, ?_⟩) (by assumption) ?_
    rotate_left
    · intro w hSw
      try dsimp only at hSw
      go_simp
      try with_reducible rfl
    try simp only [Act.put, List.setIfInBounds_toArray, List.set_cons_zero, List.set_cons_succ]
    refine wpAnyH_take (i := 7) (oi := ⟨some 12, _, _, _, _, _⟩) (v := undef) rfl (by kernel_rfl) (by kernel_rfl) (by kernel_rfl) (fun _ _ _ h => h) (Or.inr ⟨?_, rfl⟩) (by assumption) ?_
    · simp [Region.wanted, yielded, undef]
    try simp only [Act.put, List.setIfInBounds_toArray, List.set_cons_zero, List.set_cons_succ]
    refine wpAnyH_take (i := 8) (oi := ⟨some 13, _, _, _, _, _⟩) (v := undef) rfl (by kernel_rfl) (by kernel_rfl) (by kernel_rfl) (fun _ _ _ h => h) (Or.inr ⟨?_, rfl⟩) (by assumption) ?_
    · simp [Region.wanted, yielded, undef]
    try simp only [Act.put, List.setIfInBounds_toArray, List.set_cons_zero, List.set_cons_succ]
    refine wpAnyH_take (i := 9) (oi := ⟨some 14, _, _, _, _, _⟩) (v := undef) rfl (by kernel_rfl) (by kernel_rfl) (by kernel_rfl) (fun _ _ _ h => h) (Or.inr ⟨?_, rfl⟩) (by assumption) ?_
    · simp [Region.wanted, yielded, undef]
    try simp only [Act.put, List.setIfInBounds_toArray, List.set_cons_zero, List.set_cons_succ]
    refine wpAnyH_take (i := 10) (oi := ⟨some 15, _, _, _, _, _⟩) (v := undef) rfl (by kernel_rfl) (by kernel_rfl) (by kernel_rfl) (fun _ _ _ h => h) (Or.inr ⟨?_, rfl⟩) (by assumption) ?_
    · simp [Region.wanted, yielded, undef]
    try simp only [Act.put, List.setIfInBounds_toArray, List.set_cons_zero, List.set_cons_succ]
    refine wpAnyH_take (i := 11) (oi := ⟨some 16, _, _, _, _, _⟩) (v := undef) rfl (by kernel_rfl) (by kernel_rfl) (by kernel_rfl) (fun _ _ _ h => h) (Or.inr ⟨?_, rfl⟩) (by assumption) ?_
    · simp [Region.wanted, yielded, undef]
    try simp only [Act.put, List.setIfInBounds_toArray, List.set_cons_zero, List.set_cons_succ]
    refine wpAnyH_take (i := 12) (oi := ⟨some 17, _, _, _, _, _⟩) (v := undef) rfl (by kernel_rfl) (by kernel_rfl) (by kernel_rfl) (fun _ _ _ h => h) (Or.inr ⟨?_, rfl⟩) (by assumption) ?_
    · simp [Region.wanted, yielded, undef]
    try simp only [Act.put, List.setIfInBounds_toArray, List.set_cons_zero, List.set_cons_succ]
    refine wpAnyH_take (i := 13) (oi := ⟨some 18, _, _, _, _, _⟩) (v := ?_) rfl (by kernel_rfl) (by kernel_rfl) (by kernel_rfl) (fun _ _ _ h => h) (Or.inl ⟨by rfl, ?_⟩) (by assumption) ?_
    rotate_left
    · intro w hSw
      try dsimp only at hSw
      go_simp
      try with_reducible rfl
    try simp only [Act.put, List.setIfInBounds_toArray, List.set_cons_zero, List.set_cons_succ]
    refine wpAnyH_take (i := 14) (oi := ⟨some 4, _, _, _, _, _⟩) (v := ?_) rfl (by kernel_rfl) (by kernel_rfl) (by kernel_rfl) (fun _ _ _ h => h) (Or.inl ⟨by rfl, ?_⟩) (by assumption) ?_
    rotate_left
    · intro w hSw
      try dsimp only at hSw
      go_simp
      try with_reducible rfl
    try simp only [Act.put, List.setIfInBounds_toArray, List.set_cons_zero, List.set_cons_succ]
    refine wpAnyH_done (by kernel_rfl) ?_ _
    refine NoPanic.normal ?_
    go_wp2
    go_ret
    exact ⟨RetB.no fun h => PA.out h.1, below_step HT.out.bw (by assumption)⟩

set_option maxHeartbeats 2000000 in
set_option maxRecDepth 100000 in
theorem meets_any (va vb : Value) (a b : List Rc) (w : World) (ha : RectsAt w va a) (hb : RectsAt w vb b) :
    Calls Try.prog 30 #[.agg #[va], .agg #[vb]] w fun e w' => RetB e (ValidP a ∧ ValidP b ∧ (∃ x y, insideB a x y = true ∧ insideB b x y = true)) ∧ Below w.heap.size w w' := by
  by_cases hva : ValidP a
  · by_cases hvb : ValidP b
    · refine (meets_yes va vb a b w ha hb hva hvb).mono fun e w' ⟨he, hb'⟩ => ⟨⟨_, he, ?_⟩, hb'⟩
      rw [decide_eq_true_eq, meet_cnt hva.good hvb.good]
      exact ⟨fun h => ⟨hva, hvb, h⟩, fun h => h.2.2⟩
    · have PA := Lib.hid hva
      have PB := Lib.hid hvb
      clear hva hvb
      have HT := Lib.hid (two_at w va vb)
      have HVa := Lib.hid (fun (w' : World) (h : Below w.heap.size w w') => valid_any va a w' (ha.below h))
      have HVb := Lib.hid (fun (w' : World) (h : Below w.heap.size w w') => valid_any vb b w' (hb.below h))
      obtain ⟨pa, ca, rfl⟩ := ha.shape
      obtain ⟨pb, cb, rfl⟩ := hb.shape
      clear ha hb
      go_enter Try.func30, Try.ntmps30
      go_wp2_with fail
      generalize hw2 : (w.alloc (.cells #[.slice pa a.length ca] 24)).alloc (.cells #[.slice pb b.length cb] 24) = w2 at *
      clear hw2
      have KS := Lib.hid (fun (w' : World) (h : Below w2.heap.size w2 w') => (⟨(HT.out.x0.below h).cell (i := 0) rfl, (HT.out.x1.below h).cell (i := 0) rfl, h⟩ : w'.cell? ⟨w.heap.size, 0, none⟩ = some (.slice pa a.length ca) ∧ w'.cell? ⟨w.heap.size + 1, 0, none⟩ = some (.slice pb b.length cb) ∧ Below w2.heap.size w2 w'))
      obtain ⟨c0, c1, kb0⟩ := KS.out _ (Below.refl _ _)
      go_wp2_with (first
        | (go_at_call 28; (with_reducible refine (HVa.out _ (below_step HT.out.bw (show Below w2.heap.size w2 _ from (by assumption)))).mono ?_); rintro e w' ⟨hr, hb⟩; obtain rfl := hr.is_yes PA.out; have kb : Below w2.heap.size w2 w' := below_step (by assumption) hb; clear hb hr c0 c1; obtain ⟨c0, c1, _⟩ := KS.out _ kb)
        | (go_at_call 28; (with_reducible refine (HVb.out _ (below_step HT.out.bw (show Below w2.heap.size w2 _ from (by assumption)))).mono ?_); rintro e w' ⟨hr, hb⟩; obtain rfl := hr.is_no PB.out; have kb : Below w2.heap.size w2 w' := below_step (by assumption) hb; clear hb hr c0 c1; obtain ⟨c0, c1, _⟩ := KS.out _ kb))
      go_ret
      exact ⟨RetB.no fun h => PB.out h.2.1, below_step HT.out.bw (by assumption)⟩
  · have PA := Lib.hid hva
    clear hva
    have HT := Lib.hid (two_at w va vb)
    have HVa := Lib.hid (fun (w' : World) (h : Below w.heap.size w w') => valid_any va a w' (ha.below h))
    have HVb := Lib.hid (fun (w' : World) (h : Below w.heap.size w w') => valid_any vb b w' (hb.below h))
    obtain ⟨pa, ca, rfl⟩ := ha.shape
    obtain ⟨pb, cb, rfl⟩ := hb.shape
    clear ha hb
    go_enter Try.func30, Try.ntmps30
    go_wp2_with fail
    generalize hw2 : (w.alloc (.cells #[.slice pa a.length ca] 24)).alloc (.cells #[.slice pb b.length cb] 24) = w2 at *
    clear hw2
    have KS := Lib.hid (fun (w' : World) (h : Below w2.heap.size w2 w') => (⟨(HT.out.x0.below h).cell (i := 0) rfl, (HT.out.x1.below h).cell (i := 0) rfl, h⟩ : w'.cell? ⟨w.heap.size, 0, none⟩ = some (.slice pa a.length ca) ∧ w'.cell? ⟨w.heap.size + 1, 0, none⟩ = some (.slice pb b.length cb) ∧ Below w2.heap.size w2 w'))
    obtain ⟨c0, c1, kb0⟩ := KS.out _ (Below.refl _ _)
    go_wp2_with (first
      | (go_at_call 28; (with_reducible refine (HVa.out _ (below_step HT.out.bw (show Below w2.heap.size w2 _ from (by assumption)))).mono ?_); rintro e w' ⟨hr, hb⟩; obtain rfl := hr.is_no PA.out; have kb : Below w2.heap.size w2 w' := below_step (by assumption) hb; clear hb hr c0 c1; obtain ⟨c0, c1, _⟩ := KS.out _ kb))
    go_ret
    exact ⟨RetB.no fun h => PA.out h.1, below_step HT.out.bw (by assumption)⟩
end Go.Proofs.Ytdpnkbbphfcngaa
