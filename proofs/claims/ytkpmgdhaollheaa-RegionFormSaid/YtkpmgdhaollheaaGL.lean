/- parted, firstBand, Valid. -/
import Derived.Test.YtkpmgdhaollheaaGK
import Derived.Test.YtkpmgdhaollheaaGVal
namespace Go.Proofs.Ytkpmgdhaollheaa
open Go.RowKit Go.Shelf

/-- An answer that tells whether. -/
def RetB (e : Ending) (P : Prop) : Prop := ∃ b, e = .returned (.bool b) ∧ (b = true ↔ P)
theorem RetB.yes {P : Prop} (h : P) : RetB (.returned (.bool true)) P := ⟨true, rfl, fun _ => h, fun _ => rfl⟩
theorem RetB.no {P : Prop} (h : ¬ P) : RetB (.returned (.bool false)) P := ⟨false, rfl, (fun e => by cases e), fun e => absurd e h⟩

set_option maxHeartbeats 1000000 in
set_option maxRecDepth 100000 in
theorem parted_any (v : Value) (l : List Sp) (w : World) (h : RowRd w 2 encS v l) (hl : l.length ≤ 100000) :
    Calls Try.prog 80 #[v] w fun e w' => RetB e (partP l) ∧ ∃ q, w' = w.drewN q := by
  obtain ⟨p, cap, rfl, h⟩ := h
  have HL := Lib.hid h
  obtain ⟨n, hn⟩ : ∃ n, n = l.length := ⟨_, rfl⟩
  rw [← hn]
  have N := Lib.hid hn
  have hn' : (n : Int) ≤ 100000 := by omega
  clear h hn
  go_enter Try.func80, Try.ntmps80
  go_wp2
  go_loopw [3] (fun i wr => ∃ k q : Nat, (k = 0 ∨ k + 1 ≤ n) ∧ i = .int .i64 ((k : Int) + 1) ∧ (∀ j, j < k → l[j]!.2 < l[j + 1]!.1) ∧ wr = w.drewN q) (fun i _ => n - (intOf i).toNat)
  case atStart => exact ⟨0, 0, .inl rfl, rfl, fun j hj => absurd hj (Nat.not_lt_zero _), rfl⟩
  case round =>
    obtain ⟨k, q, hk, rfl, hall, rfl⟩ := hrel
    by_cases hkn : k + 1 < n
    · obtain ⟨b, o, rfl, hc⟩ := HL.out k (by rw [← N.out]; omega)
      obtain ⟨b', o', e, hc'⟩ := HL.out (k + 1) (by rw [← N.out]; omega)
      cases e
      have c0 := hc 1 _ rfl
      have c1 := hc' 0 _ rfl
      simp only [Nat.add_zero] at c1
      have hkn' : (k : Int) + 1 < (n : Int) := by omega
      have hk0 : (0 : Int) ≤ (k : Int) := by omega
      have HA := Lib.hid hall
      have HN := Lib.hid (show ¬ (l[k]!.2 < l[k + 1]!.1) → ¬ partP l from fun h1 h2 => h1 (h2 k (by rw [← N.out]; omega)))
      have HS := Lib.hid (show l[k]!.2 < l[k + 1]!.1 → ∀ j, j < k + 1 → l[j]!.2 < l[j + 1]!.1 from fun h1 j hj => by
        rcases Nat.lt_or_ge j k with h | h
        · exact hall j h
        · obtain rfl : j = k := by omega
          exact h1)
      clear hc hc' hall
      generalize l[k]!.2 = a at *
      generalize l[k + 1]!.1 = c at *
      by_cases hac : a < c
      · go_wp2
        go_quiet (fail)
        go_wp2
        go_roundw
        case rel => exact ⟨k + 1, _, .inr (by omega), by simp, HS.out hac, rfl⟩
        case measure => simp [intOf]; omega
      · go_wp2
        go_quiet (fail)
        go_wp2
        go_ret
        exact ⟨RetB.no (HN.out hac), _, World.drewN_drewN _ _ _⟩
    · have hkn' : ¬ ((k : Int) + 1 < (n : Int)) := by omega
      have hk0 : (0 : Int) ≤ (k : Int) := by omega
      have hk1 : (k : Int) ≤ 100000 := by omega
      have HA := Lib.hid (show partP l from fun j hj => hall j (by rw [← N.out] at hj; omega))
      clear hall
      go_wp2
      go_ret
      exact ⟨RetB.yes HA.out, _, rfl⟩

theorem bandSp_take {lo hi : Int} : ∀ (l : List Rc) (k : Nat), k ≤ l.length → (∀ r ∈ l.take k, sameRow lo hi r = true) → (k = l.length ∨ sameRow lo hi l[k]! = false) → bandSp lo hi l = (l.take k).map spOf
  | [], k, hk, _, _ => by simp [bandSp]
  | r :: l, 0, _, _, h => by
    have h' : sameRow lo hi r = false := by
      rcases h with h | h
      · simp at h
      · simpa using h
    unfold bandSp
    rw [List.takeWhile_cons_of_neg (by rw [h']; decide)]; rfl
  | r :: l, k + 1, hk, ha, h => by
    have h0 := ha r (by simp)
    have ih := bandSp_take (lo := lo) (hi := hi) l k (by simpa using hk) (fun x hx => ha x (by rw [List.take_succ_cons]; exact List.mem_cons_of_mem _ hx)) (by simpa using h)
    unfold bandSp at ih ⊢
    rw [List.takeWhile_cons_of_pos h0, List.map_cons, ih, List.take_succ_cons, List.map_cons]

theorem own_box {w : World} {B b k n j : Nat} {t e : TypeId} {cs : Array Value} {v u : Value} {xs : List Value} (h : BoxAt w b cs t) (hte : t ≠ e) (ho : w.ownsRow B e k v n xs) : (w.setCell ⟨b, j, none⟩ u).ownsRow B e k v n xs := by
  refine ownsRow_setCell_other ho ?_ u
  intro e1
  obtain ⟨c, fz, hc⟩ := Lib.ownsRow_kind ho b e1
  rw [show w.heap[b]? = _ from h] at hc
  simp at hc
  exact hte hc.2.1
theorem BoxAt.otherS {w : World} {b b' j : Nat} {cs : Array Value} {t : TypeId} (h : BoxAt w b cs t) (hne : b ≠ b') (u : Value) : BoxAt (w.setCell ⟨b', j, none⟩ u) b cs t := (Below.heap_setCell _ _ _ _ hne).trans h

theorem own_shape {w : World} {B k n : Nat} {e : TypeId} {v : Value} {xs : List Value} (h : w.ownsRow B e k v n xs) : ∃ p c, v = .slice p n c := by
  rcases h.2 with ⟨rfl, rfl⟩ | ⟨g, cap, cur, rfl, _⟩
  · exact ⟨none, 0, rfl⟩
  · exact ⟨_, cap, rfl⟩

/-- What the loop of firstBand keeps. -/
structure FbAt (w wr : World) (lo hi : Int) (v : Value) (sp : List Sp) : Prop where
  box : BoxAt wr (w.heap.size + 1) #[.int .i64 lo, .int .i64 hi, v] 99
  res : BoxAt wr w.heap.size #[.int .i64 0, .int .i64 0, .slice none 0 0] 99
  own : OwnAt wr w.heap.size 116 2 encS v sp
  below : Below w.heap.size w wr

theorem FbAt.drew {w wr : World} {lo hi : Int} {v : Value} {sp : List Sp} (h : FbAt w wr lo hi v sp) : FbAt w wr.drew lo hi v sp :=
  ⟨h.box, h.res, h.own, h.below.drew⟩
theorem FbAt.alloc {w wr : World} {lo hi : Int} {v : Value} {sp : List Sp} (h : FbAt w wr lo hi v sp) (o : Obj) : FbAt w (wr.alloc o) lo hi v sp :=
  ⟨h.box.alloc o, h.res.alloc o, h.own.alloc o, h.below.alloc h.below.size o⟩
theorem FbAt.next {w wr w1 : World} {lo hi : Int} {v v' : Value} {sp : List Sp} {s : Sp} (h : FbAt w wr lo hi v sp) (h1 : OwnAt w1 w.heap.size 116 2 encS v' (sp ++ [s])) (hg : wr.grownBy w1 v.ownBlock) : FbAt w (w1.setCell ⟨w.heap.size + 1, 2, none⟩ v') lo hi v' (sp ++ [s]) := by
  have hb := h.box.grown (by decide) hg h.own
  have hr := h.res.grown (by decide) hg h.own
  refine ⟨?_, hr.otherS (by omega) _, own_box hb (by decide) h1, (h.below.grown hg h.below.size (ownsRow_ge h.own)).setCell (by show w.heap.size ≤ w.heap.size + 1; omega) _⟩
  exact hb.set 2 v'

/-- The result's box, written. -/
def fbWorld (w wr : World) (lo hi : Int) (v : Value) : World :=
  ((wr.setCell ⟨w.heap.size, 0, none⟩ (.int .i64 lo)).setCell ⟨w.heap.size, 1, none⟩ (.int .i64 hi)).setCell ⟨w.heap.size, 2, none⟩ v
theorem FbAt.fin {w wr : World} {lo hi : Int} {v : Value} {sp : List Sp} (h : FbAt w wr lo hi v sp) : BoxAt (fbWorld w wr lo hi v) w.heap.size #[.int .i64 lo, .int .i64 hi, v] 99 ∧ OwnAt (fbWorld w wr lo hi v) w.heap.size 116 2 encS v sp ∧ Below w.heap.size w (fbWorld w wr lo hi v) := by
  have h1 := h.res.set 0 (.int .i64 lo)
  have h2 := h1.set 1 (.int .i64 hi)
  have h3 := h2.set 2 v
  refine ⟨h3, own_box h2 (by decide) (own_box h1 (by decide) (own_box h.res (by decide) h.own)), ?_⟩
  exact ((h.below.setCell (Nat.le_refl _) _).setCell (Nat.le_refl _) _).setCell (Nat.le_refl _) _
theorem ret_band {tmps : Array Value} {W : World} {lo hi : Int} {v : Value} {p : Nat} (hp : tmps.getD 2 undef = .pointer (some ⟨p, 0, none⟩)) (hb : BoxAt W p #[.int .i64 lo, .int .i64 hi, v] 99) :
    (results Try.f79 tmps).run Try.prog W = .ok (.agg #[.int .i64 lo, .int .i64 hi, v]) W := by
  have z0 := hb.cell (i := 0) rfl
  have z1 := hb.cell (i := 1) rfl
  have z2 := hb.cell (i := 2) rfl
  have hr : Try.f79.results = #[.cell 2 99] := rfl
  have hp' : tmps[2]?.getD undef = .pointer (some ⟨p, 0, none⟩) := by simpa using hp
  simp [results, hr, hp', Try.isAgg99, Try.sizeOf99, loadCellsFrom, go_sem, z0, z1, z2]

set_option maxHeartbeats 4000000 in
set_option maxRecDepth 100000 in
theorem firstBand_any (v : Value) (r0 : Rc) (l0 : List Rc) (w : World) (h : RectsAt w v (r0 :: l0)) (hl : l0.length ≤ 1000) :
    Calls Try.prog 79 #[v] w fun e w' => ∃ v', e = .returned (.agg #[.int .i64 r0.b, .int .i64 r0.h, v']) ∧ OwnAt w' w.heap.size 116 2 encS v' (firstSp (r0 :: l0)) ∧ Below w.heap.size w w' := by
  obtain ⟨i0, hi, hz0, hz1, hz2⟩ := info_parts info_span
  obtain ⟨p, cap, rfl, hm, hcp, h⟩ := h
  have HL := Lib.hid h
  have HF := Lib.hid (show ∀ k, k ≤ (r0 :: l0).length → (∀ r ∈ (r0 :: l0).take k, sameRow r0.b r0.h r = true) → (k = (r0 :: l0).length ∨ sameRow r0.b r0.h (r0 :: l0)[k]! = false) → firstSp (r0 :: l0) = ((r0 :: l0).take k).map spOf from fun k => bandSp_take (r0 :: l0) k)
  obtain ⟨b, off, rfl, hlt, hc⟩ := h 0 (by simp)
  obtain ⟨c0, c1, c2, c3⟩ := hc
  simp only [Nat.zero_mul, Nat.add_zero] at c0 c1 c2 c3
  have e0 : (r0 :: l0)[0]! = r0 := rfl
  rw [e0] at c0 c1 c2 c3
  obtain ⟨n, hn⟩ : ∃ n, n = (r0 :: l0).length := ⟨_, rfl⟩
  rw [← hn] at hm hcp ⊢
  have hn' : (n : Int) ≤ 1001 := by simp at hn; omega
  have hn0 : (0 : Int) < (n : Int) := by simp at hn; omega
  have N := Lib.hid hn
  clear h e0 hn
  generalize hll : r0 :: l0 = l at *
  generalize hlo : r0.b = lo at *
  generalize hhi : r0.h = hh at *
  clear hlo hhi hll
  go_enter Try.func79, Try.ntmps79
  go_wp2
  go_region
  all_goals go_wp2
  go_loopw [17] (fun i wr => ∃ (k : Nat) (u : Value), k ≤ n ∧ i = .int .i64 k ∧ FbAt w wr lo hh u ((l.take k).map spOf) ∧ (∀ r ∈ l.take k, sameRow lo hh r = true)) (fun i _ => n - (intOf i).toNat)
  case atStart =>
    refine ⟨0, .slice none 0 0, Nat.zero_le _, rfl, FbAt.drew ⟨?_, ?_, OwnAt.nil .., ((Below.refl _ _).alloc (Nat.le_refl _) _).alloc (by simp) _⟩, fun r hr => by simp at hr⟩
    · have := BoxAt.new (w.alloc (.cells #[.int .i64 0, .int .i64 0, .slice none 0 0] 99)) #[.int .i64 lo, .int .i64 hh, .slice none 0 0] 99
      simpa using this
    · exact (BoxAt.new w _ _).alloc _
  case round =>
    obtain ⟨k, u, hk, rfl, hst, hall⟩ := hrel
    obtain ⟨pu, cu, rfl⟩ := hst.own.shape
    have x0 := hst.box.cell (i := 0) rfl
    have x1 := hst.box.cell (i := 1) rfl
    have x2 := hst.box.cell (i := 2) rfl
    have y0 := hst.res.cell (i := 0) rfl
    have y1 := hst.res.cell (i := 1) rfl
    have y2 := hst.res.cell (i := 2) rfl
    have yf0 := hst.res.free 0
    have yf1 := hst.res.free 1
    have yf2 := hst.res.free 2
    have hsz := hst.box.lt
    have hsy := hst.res.lt
    have hlen : ((l.take k).map spOf).length = k := by rw [List.length_map, List.length_take, ← N.out]; omega
    have HST := Lib.hid hst
    rw [hlen] at x2 HST
    clear hst
    by_cases hkn : k < n
    · obtain ⟨b', o', e, hlt', hcc⟩ := HL.out k (by rw [← N.out]; exact hkn)
      cases e
      obtain ⟨d0, d1, d2, d3⟩ := hcc.below HST.out.below hlt
      have hkn' : (k : Int) < (n : Int) := by omega
      have n1 : b ≠ wr.heap.size := by have := HST.out.below.size; omega
      have HS := Lib.hid (show sameRow lo hh l[k]! = true → (∀ r ∈ l.take (k + 1), sameRow lo hh r = true) ∧ (l.take (k + 1)).map spOf = (l.take k).map spOf ++ [spOf l[k]!] from fun h => by
        rw [List.take_succ_eq_append_getElem (by rw [← N.out]; exact hkn), ← getElem!_pos l k (by rw [← N.out]; exact hkn)]
        refine ⟨fun r hr => ?_, by rw [List.map_append]; rfl⟩
        rcases List.mem_append.1 hr with hr | hr
        · exact hall r hr
        · rw [List.mem_singleton] at hr; subst hr; exact h)
      have HN := Lib.hid (show sameRow lo hh l[k]! = false → firstSp l = (l.take k).map spOf from fun h => HF.out k (by rw [← N.out]; exact hk) hall (.inr h))
      have HSR := Lib.hid (show sameRow lo hh l[k]! = true ↔ l[k]!.b = lo ∧ l[k]!.h = hh by simp [sameRow])
      clear hcc hall hlt'
      generalize l[k]! = r at *
      by_cases e1 : r.b = lo
      · by_cases e2 : r.h = hh
        · obtain ⟨hs1, hs2⟩ := HS.out (HSR.out.2 ⟨e1, e2⟩)
          have HS1 := Lib.hid hs1
          have HS2 := Lib.hid hs2
          have hxs := HST.out.own
          unfold OwnAt at hxs
          rw [hlen] at hxs
          generalize hxe : ((l.take k).map spOf).flatMap encS = xs at hxs
          have hb0 := HST.out.below.size
          have f2 : (wr.alloc (.cells #[.int .i64 r.l, .int .i64 r.b, .int .i64 r.r, .int .i64 r.h] 39)).frozen? ⟨w.heap.size + 1, 2, none⟩ = false := (HST.out.box.alloc _).free 2
          clear hs1 hs2 HN
          go_wp2_with (first | (at_builtin; refine wpList_append_own _ rfl _ _ 97 rfl w.heap.size 116 i0 _ 2 16 Try.underlying97 hi hz0 hz1 hz2 rfl (by decide) _ _ _ rfl ((hxs.alloc _).alloc _) ⟨wr.heap.size + 1, 0, none⟩ 1 1 [.int .i64 r.l, .int .i64 r.r] rfl rfl ?c1 ?c2 ?c3 ?c4 ?c5 ?_))
          case c1 => exact news_at (by simp)
          case c2 => exact List.all_eq_true.1 (by rfl)
          case c3 => unfold maxLen; omega
          case c4 => omega
          case c5 => simp; omega
          intro v' w1 hown1 hgrow _
          have HF2 := Lib.hid ((HST.out.alloc (.cells #[.int .i64 r.l, .int .i64 lo, .int .i64 r.r, .int .i64 hh] 39)).alloc (.cells #[.int .i64 r.l, .int .i64 r.r] 116))
          have hbx := HF2.out.box.grown (by decide) hgrow HF2.out.own
          have z2 := hbx.cell (i := 2) rfl
          have zf2 := hbx.free 2
          have HO2 := Lib.hid (OwnAt.snoc (l := (l.take k).map spOf) (m := [spOf r]) (enc := encS) (n := 1) rfl (by rw [hlen, hxe]; exact hown1))
          have HG2 := Lib.hid hgrow
          obtain ⟨pv, cv, rfl⟩ := own_shape hown1
          clear hxs hown1 hgrow hbx
          go_wp2
          go_roundw
          case rel => exact ⟨k + 1, _, by omega, by simp, by rw [HS2.out]; exact HF2.out.next HO2.out HG2.out, HS1.out⟩
          case measure => simp [intOf]; omega
        · have HR := Lib.hid (HN.out (by
            have h1 := HSR.out
            cases hq : sameRow lo hh r with
            | false => rfl
            | true => exact absurd (h1.1 hq).2 e2))
          have hbs := HST.out.below.size
          have yfa : ∀ o j, (wr.alloc o).frozen? ⟨w.heap.size, j, none⟩ = false := fun o j => (HST.out.res.alloc o).free j
          go_wp2
          obtain ⟨q1, q2, q3⟩ := HST.out.fin
          refine bodyPost_ret (ret_band rfl (q1.alloc _)) rfl ⟨_, rfl, ?_, q3.alloc q3.size _⟩
          rw [HR.out]
          exact q2.alloc _
      · have HR := Lib.hid (HN.out (by
          have h1 := HSR.out
          cases hq : sameRow lo hh r with
          | false => rfl
          | true => exact absurd (h1.1 hq).1 e1))
        have hbs := HST.out.below.size
        have yfa : ∀ o j, (wr.alloc o).frozen? ⟨w.heap.size, j, none⟩ = false := fun o j => (HST.out.res.alloc o).free j
        go_wp2
        obtain ⟨q1, q2, q3⟩ := HST.out.fin
        refine bodyPost_ret (ret_band rfl (q1.alloc _)) rfl ⟨_, rfl, ?_, q3.alloc q3.size _⟩
        rw [HR.out]
        exact q2.alloc _
    · obtain rfl : k = n := by omega
      have HR := Lib.hid (HF.out k (by rw [← N.out]; exact Nat.le_refl _) hall (.inl N.out))
      clear hall
      go_wp2
      obtain ⟨q1, q2, q3⟩ := HST.out.fin
      refine bodyPost_ret (ret_band rfl q1) rfl ⟨_, rfl, ?_, q3⟩
      rw [HR.out]
      exact q2

theorem RectsAt.shape {w : World} {v : Value} {l : List Rc} (h : RectsAt w v l) : ∃ p c, v = .slice p l.length c := by
  obtain ⟨p, cap, rfl, _⟩ := h
  exact ⟨p, cap, rfl⟩
theorem RectsAt.drop {w : World} {b off cap : Nat} {l : List Rc} (h : RectsAt w (.slice (some ⟨b, off, none⟩) l.length cap) l) {k : Nat} (hk : k ≤ l.length) {p : Option Addr} (hp : k < l.length → p = some ⟨b, off + k * 4, none⟩) : RectsAt w (.slice p (l.length - k) (cap - k)) (l.drop k) := by
  obtain ⟨p', cap', e, hm, hcp, hc⟩ := h
  cases e
  refine ⟨p, cap - k, by rw [List.length_drop], by rw [List.length_drop]; omega, by rw [List.length_drop]; omega, fun j hj => ?_⟩
  rw [List.length_drop] at hj
  obtain ⟨b', off', e, hlt, hc⟩ := hc (k + j) (by omega)
  cases e
  refine ⟨b, off + k * 4, hp (by omega), hlt, ?_⟩
  have e1 : off + k * 4 + j * 4 = off + (k + j) * 4 := by rw [Nat.add_mul]; omega
  have e2 : (l.drop k)[j]! = l[k + j]! := by rw [getElem!_pos _ _ (by rw [List.length_drop]; omega), getElem!_pos _ _ (by omega), List.getElem_drop]
  rw [e1, e2]
  exact hc
end Go.Proofs.Ytkpmgdhaollheaa
