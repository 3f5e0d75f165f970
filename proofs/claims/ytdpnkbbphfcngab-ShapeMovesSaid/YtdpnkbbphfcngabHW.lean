/- The law ShapeGrows: the walk. -/
import Derived.Test.YtdpnkbbphfcngabHG
import Derived.Test.YtdpnkbbphfcngabHM
import Derived.Test.YtdpnkbbphfcngabGRV
import Derived.Test.YtdpnkbbphfcngabGGd
namespace Go.Proofs.Ytdpnkbbphfcngab
open Go.RowKit Go.Shelf

theorem retB_val {e : Ending} {P : Prop} {b : Bool} (h : RetB e P) (hb : b = true ↔ P) : e = .returned (.bool b) := by
  obtain ⟨c, rfl, hc⟩ := h
  rw [show c = b from Bool.eq_iff_iff.2 (hc.trans hb.symm)]

theorem good_grow {n k : Nat} {a out : List Rc} {e : Int} (ha : Good n a) (hn : (n + k) * (n + k) ≤ 120) (hk : k ≤ 64) (h : GrowR a k out e) :
    e = 0 ∧ Good (n + k) out ∧ ∀ x y, insideB out x y = true ↔ (0 ≤ x ∧ 0 ≤ y) ∧ Near k (insideB a) x y := by
  have hnn : n + k ≤ 120 := Nat.le_trans (Nat.le_mul_self _) hn
  have hset := grow_set (k := (k : Int)) (by omega) ha.valid
  have hK : ∀ x y, insideB (a.map fun r => clipR (growR k r)) x y = true → 0 ≤ x ∧ x < ((n + k : Nat) : Int) ∧ 0 ≤ y ∧ y < ((n + k : Nat) : Int) := by
    intro x y hxy
    obtain ⟨hg, u, v, h1, h2, h3, h4, hi⟩ := (hset x y).1 hxy
    have := ha.side u v hi
    omega
  rcases h with ⟨hc, h0, _⟩ | ⟨_, _, _, h⟩
  · rcases hc with ⟨hno, _⟩ | ⟨_, hno, _⟩ | ⟨_, _, _, rfl⟩
    · exact absurd ha.valid hno
    · exact absurd ⟨by omega, by omega⟩ hno
    · exact absurd rfl h0
  · have hlen : (a.map fun r => clipR (growR k r)).length ≤ 120 := by rw [List.length_map]; exact ha.len
    have hprop : allP (a.map fun r => clipR (growR k r)) = true := by
      rw [allP_iff]
      intro q hq
      obtain ⟨r, hr, rfl⟩ := List.mem_map.1 hq
      have := ha.ok r hr
      unfold properR at this ⊢
      simp only [clipR, growR]
      omega
    rcases h with ⟨h1, _⟩ | ⟨_, h1, _⟩ | ⟨_, _, c, hc, hL⟩
    · omega
    · rw [hprop] at h1; cases h1
    · have hg : Good (n + k) c := form_good hc hK hn (by omega)
      rcases hL with ⟨h2, _, _⟩ | ⟨_, rfl, rfl⟩
      · have := hg.len; omega
      · refine ⟨rfl, hg, fun x y => ?_⟩
        rw [hc.inside, hset]
        constructor
        · rintro ⟨h1, h2⟩
          exact ⟨⟨h1.1, h1.2.2.1⟩, h2⟩
        · rintro ⟨⟨h1, h2⟩, h3⟩
          obtain ⟨u, v, g1, g2, g3, g4, hi⟩ := h3
          have := ha.side u v hi
          exact ⟨by omega, u, v, g1, g2, g3, g4, hi⟩

theorem good_shrink {n k : Nat} {a out : List Rc} {e : Int} (ha : Good n a) (hn : n * n ≤ 120) (hk : k ≤ 64) (h : ShrinkR a k out e) :
    e = 0 ∧ Good n out ∧ ∀ x y, insideB out x y = true ↔ ∀ u v, x - k ≤ u → u ≤ x + k → y - k ≤ v → v ≤ y + k → insideB a u v = true := by
  have hnn : n ≤ 120 := Nat.le_trans (Nat.le_mul_self _) hn
  rcases h with ⟨hc, h0, _⟩ | ⟨_, _, _, m, c, hm, hc, hL⟩
  · rcases hc with ⟨hno, _⟩ | ⟨_, hno, _⟩ | ⟨_, _, _, rfl⟩
    · exact absurd ha.valid hno
    · exact absurd ⟨by omega, by omega⟩ hno
    · exact absurd rfl h0
  · have hg : Good n c := form_good hc (fun x y hxy => ha.side x y (by rw [Bool.and_eq_true] at hxy; exact hxy.1)) hn (by omega)
    rcases hL with ⟨h2, _, _⟩ | ⟨_, rfl, rfl⟩
    · have := hg.len; omega
    · refine ⟨rfl, hg, fun x y => ?_⟩
      rw [hc.inside]
      exact shrink_set (by omega) ha.valid hm x y

/-- What near and all say of some squares. -/
def NA (F : Int → Int → Bool) (P : Int → Int → Prop) (nb ab : Bool) : Prop := (nb = true ↔ ∃ u v, P u v ∧ F u v = true) ∧ (ab = true ↔ ∀ u v, P u v → F u v = true)
theorem NA.step {F : Int → Int → Bool} {P P' : Int → Int → Prop} {nb ab : Bool} (h : NA F P nb ab) {U V : Int} (hP : ∀ u v, P' u v ↔ (P u v ∨ (u = U ∧ v = V))) : NA F P' (nb || F U V) (ab && F U V) := by
  constructor
  · rw [Bool.or_eq_true, h.1]
    constructor
    · rintro (⟨u, v, h1, h2⟩ | h1)
      · exact ⟨u, v, (hP u v).2 (.inl h1), h2⟩
      · exact ⟨U, V, (hP U V).2 (.inr ⟨rfl, rfl⟩), h1⟩
    · rintro ⟨u, v, h1, h2⟩
      rcases (hP u v).1 h1 with h1 | ⟨rfl, rfl⟩
      · exact .inl ⟨u, v, h1, h2⟩
      · exact .inr h2
  · rw [Bool.and_eq_true, h.2]
    constructor
    · rintro ⟨h1, h2⟩ u v hp
      rcases (hP u v).1 hp with hp | ⟨rfl, rfl⟩
      · exact h1 u v hp
      · exact h2
    · intro h1
      exact ⟨fun u v hp => h1 u v ((hP u v).2 (.inl hp)), h1 U V ((hP U V).2 (.inr ⟨rfl, rfl⟩))⟩
theorem NA.congr {F : Int → Int → Bool} {P P' : Int → Int → Prop} {nb ab : Bool} (h : NA F P nb ab) (hP : ∀ u v, P' u v ↔ P u v) : NA F P' nb ab := by
  constructor
  · rw [h.1]; simp only [hP]
  · rw [h.2]; simp only [hP]

set_option maxHeartbeats 8000000 in
set_option maxRecDepth 100000 in
theorem grows_law (v : Value) (n : Nat) (g : Nat → Int) (a1 : Int) (w1 : (Lit.int .u8 a1).wf = true) (W : World) (hI : IntsAt .i64 W v n g) (hcap : CapAt v) :
    Calls Try.prog 3 #[v, .int .u8 a1] W fun e w' => e = .returned (.bool true) ∧ Below W.heap.size W w' := by
  have hNew := new_any v n g W hI hcap
  clear hI hcap
  have ha0 : 0 ≤ a1 ∧ a1 ≤ 255 := by
    have h := w1
    simp [Lit.wf, IntKind.min, IntKind.max, IntKind.signed, IntKind.bits] at h
    omega
  go_enter Try.func3, Try.ntmps3
  go_wp2_with fail
  refine hNew.mono ?_
  rintro e w1 ⟨rfl, hb1, ht1, hz⟩
  have hRg := region_any w1 W.heap.size ht1 6 (by omega) (by omega) 3 (by omega)
  clear hNew ht1
  go_wp2_with fail
  refine hRg.mono ?_
  rintro e w2 ⟨va, a, rfl, hD⟩
  have Ga : Hid (Good 6 a) := drawn_good (n := 6) hD (by decide)
  have RA : Hid (RectsAt w2 va a) := hD.at_
  have BW : Hid (Below W.heap.size W w2) := by
    have h1 := hD.gr
    exact ⟨h1.os.trans hb1.os, h1.tape.trans hb1.tape, h1.output.trans hb1.output, Nat.le_trans hb1.size h1.size, fun k hk => (h1.block k (by have := hb1.size; omega) (by simp; omega)).trans (hb1.block k hk)⟩
  clear hRg hD hb1 hz
  obtain ⟨pa, ca, rfl⟩ := RA.out.shape
  obtain ⟨K, hK⟩ : ∃ K : Nat, a1 % 3 = (K : Int) := ⟨(a1 % 3).toNat, by omega⟩
  have hK2 : K ≤ 2 := by omega
  have HK := Lib.hid hK
  have b3 : Below w2.heap.size w2 (w2.alloc (.cells #[.slice pa a.length ca] 25)) := (Below.refl _ _).alloc (Nat.le_refl _) _
  have hGr := grow_any _ a (K : Int) _ (RA.out.below b3)
  rw [← hK] at hGr
  have XA3 := Lib.hid (BoxAt.new w2 #[.slice pa a.length ca] 25)
  have RA3 := Lib.hid (RA.out.below b3)
  have BW3 := Lib.hid (below_step BW.out b3)
  clear b3 RA BW hK
  go_wp2_with fail
  generalize w2.alloc (.cells #[.slice pa a.length ca] 25) = w3 at *
  refine hGr.mono ?_
  rintro e w4 ⟨⟨vg, gl, eg, rfl, hrg, _, hgq⟩, hb4⟩
  rw [HK.out] at hgq
  obtain ⟨rfl, gg, gset⟩ := good_grow Ga.out (show (6 + K) * (6 + K) ≤ 120 from Nat.le_trans (Nat.mul_le_mul (by omega) (by omega) : (6 + K) * (6 + K) ≤ 8 * 8) (by decide)) (by omega) hgq
  obtain ⟨pg, cg, rfl⟩ := hrg.shape
  have b5 : Below w4.heap.size w4 (w4.alloc (.cells #[.slice pg gl.length cg] 25)) := (Below.refl _ _).alloc (Nat.le_refl _) _
  have b35 : Below w3.heap.size w3 (w4.alloc (.cells #[.slice pg gl.length cg] 25)) := below_step hb4 b5
  have XA5 := Lib.hid (XA3.out.below b35)
  have XG5 := Lib.hid (BoxAt.new w4 #[.slice pg gl.length cg] 25)
  have RA5 := Lib.hid (RA3.out.below b35)
  have RG5 := Lib.hid (hrg.below b5)
  have BW5 := Lib.hid (below_step BW3.out b35)
  have GG := Lib.hid gg
  have GS := Lib.hid gset
  have xa := XA5.out.cell (i := 0) rfl
  have hSh := shrink_any _ a (K : Int) _ RA5.out
  rw [← HK.out] at hSh
  clear hGr hrg hgq hb4 b5 b35 gg gset XA3 RA3 BW3
  go_wp2_with fail
  generalize w4.alloc (.cells #[.slice pg gl.length cg] 25) = w5 at *
  refine hSh.mono ?_
  rintro e w6 ⟨⟨vs, sl, es, rfl, hrs, _, hsq⟩, hb6⟩
  rw [HK.out] at hsq
  obtain ⟨rfl, gs, sset⟩ := good_shrink Ga.out (by decide) (by omega) hsq
  obtain ⟨ps, cs, rfl⟩ := hrs.shape
  have b7 : Below w6.heap.size w6 (w6.alloc (.cells #[.slice ps sl.length cs] 25)) := (Below.refl _ _).alloc (Nat.le_refl _) _
  have b57 : Below w5.heap.size w5 (w6.alloc (.cells #[.slice ps sl.length cs] 25)) := below_step hb6 b7
  have XA := Lib.hid (XA5.out.below b57)
  have XG := Lib.hid (XG5.out.below b57)
  have XS := Lib.hid (BoxAt.new w6 #[.slice ps sl.length cs] 25)
  have RA := Lib.hid (RA5.out.below b57)
  have RG := Lib.hid (RG5.out.below b57)
  have RS := Lib.hid (hrs.below b7)
  have BW := Lib.hid (below_step BW5.out b57)
  have GSh := Lib.hid gs
  have SS := Lib.hid sset
  clear hSh hrs hsq hb6 b7 b57 gs sset XA5 XG5 RA5 RG5 BW5 xa
  have hk0 : (0 : Int) ≤ (K : Int) := by omega
  have hk2 : (K : Int) ≤ 2 := by omega
  go_wp2
  generalize w6.alloc (.cells #[.slice ps sl.length cs] 25) = w7 at *
  rw [HK.out]
  generalize w2.heap.size = ba at *
  generalize w4.heap.size = bg at *
  generalize w6.heap.size = bs at *
  go_loopw [11] (fun v11 wr => ∃ X : Int, v11 = .int .i64 X ∧ 0 ≤ X ∧ X ≤ 10 ∧ Below w7.heap.size w7 wr) (fun v11 _ => (10 - intOf v11).toNat)
  case atStart => exact ⟨0, rfl, by omega, by omega, Below.refl _ _⟩
  case round =>
    obtain ⟨X, rfl, hx0, hx1, hb⟩ := hrel
    have HB := Lib.hid hb
    clear hb
    by_cases hx : X < 10
    · go_wp2
      go_loopw [12] (fun v12 wr => ∃ Y : Int, v12 = .int .i64 Y ∧ 0 ≤ Y ∧ Y ≤ 10 ∧ Below w7.heap.size w7 wr) (fun v12 _ => (10 - intOf v12).toNat)
      case atStart => exact ⟨0, rfl, by omega, by omega, HB.out⟩
      case round =>
        obtain ⟨Y, rfl, hy0, hy1, hb⟩ := hrel
        have HB2 := Lib.hid hb
        clear hb
        by_cases hy : Y < 10
        · go_wp2
          go_loopw [13, 14, 15] (fun v13 v14 v15 wr => ∃ (nb ab : Bool) (U : Int), v13 = .bool nb ∧ v14 = .bool ab ∧ v15 = .int .i64 U ∧ X - K ≤ U ∧ U ≤ X + K + 1 ∧ NA (insideB a) (fun u v => X - K ≤ u ∧ u < U ∧ Y - K ≤ v ∧ v ≤ Y + K) nb ab ∧ Below w7.heap.size w7 wr) (fun _ _ v15 _ => (X + K + 1 - intOf v15).toNat)
          case atStart => exact ⟨false, true, X - K, rfl, rfl, rfl, Int.le_refl _, by omega, ⟨Iff.intro (fun h => by cases h) (fun h => by obtain ⟨u, v, h, _⟩ := h; exfalso; omega), Iff.intro (fun _ u v h => by exfalso; omega) (fun _ => rfl)⟩, HB2.out⟩
          case round =>
            obtain ⟨nb, ab, U, rfl, rfl, rfl, hu0, hu1, hna, hb⟩ := hrel
            have HB3 := Lib.hid hb
            have HN := Lib.hid hna
            clear hb hna
            by_cases hu : U ≤ X + K
            · go_wp2
              go_loopw [13, 14, 16] (fun v13 v14 v16 wr => ∃ (nb ab : Bool) (V : Int), v13 = .bool nb ∧ v14 = .bool ab ∧ v16 = .int .i64 V ∧ Y - K ≤ V ∧ V ≤ Y + K + 1 ∧ NA (insideB a) (fun u v => (X - K ≤ u ∧ u < U ∧ Y - K ≤ v ∧ v ≤ Y + K) ∨ (u = U ∧ Y - K ≤ v ∧ v < V)) nb ab ∧ Below w7.heap.size w7 wr) (fun _ _ v16 _ => (Y + K + 1 - intOf v16).toNat)
              case atStart => exact ⟨nb, ab, Y - K, rfl, rfl, rfl, Int.le_refl _, by omega, HN.out.congr (fun u v => ⟨fun h => by omega, fun h => .inl h⟩), HB3.out⟩
              case round =>
                obtain ⟨nb, ab, V, rfl, rfl, rfl, hv0, hv1, hna, hb⟩ := hrel
                have HB4 := Lib.hid hb
                by_cases hv : V ≤ Y + K
                · have xa := (XA.out.below hb).cell (i := 0) rfl
                  have HS := Lib.hid (hna.step (U := U) (V := V) (P' := fun u v => (X - K ≤ u ∧ u < U ∧ Y - K ≤ v ∧ v ≤ Y + K) ∨ (u = U ∧ Y - K ≤ v ∧ v < V + 1)) (fun u v => by omega))
                  have HH := Lib.hid (refHas_any _ a U V wr (RA.out.below hb))
                  have HV := Lib.hid (fun e (h : RetB e (ValidP a ∧ insideB a U V = true)) => retB_val h (show (insideB a U V = true ↔ ValidP a ∧ insideB a U V = true) from ⟨fun h => ⟨Ga.out.valid, h⟩, fun h => h.2⟩))
                  clear hna hb
                  generalize hbb : insideB a U V = bb at *
                  cases nb <;> cases ab <;> cases bb
                  all_goals
                    go_wp2_with (go_at_call 10; refine HH.out.mono ?_; rintro e w8 ⟨hr, hb8⟩; obtain rfl := HV.out _ hr; have HB5 := Lib.hid (below_step HB4.out hb8); clear hb8 hr)
                    go_roundw
                    case rel => exact ⟨_, _, V + 1, rfl, rfl, by simp, by omega, by omega, by simpa using HS.out, HB5.out⟩
                    case measure => simp [intOf]; omega
                · obtain rfl : V = Y + K + 1 := by omega
                  have HS := Lib.hid (hna.congr (P' := fun u v => X - K ≤ u ∧ u < U + 1 ∧ Y - K ≤ v ∧ v ≤ Y + K) (fun u v => by omega))
                  clear hna hb
                  go_wp2
                  go_roundw
                  case rel => exact ⟨nb, ab, U + 1, rfl, rfl, by simp, by omega, by omega, HS.out, HB4.out⟩
                  case measure => simp [intOf]; omega
            · obtain rfl : U = X + K + 1 := by omega
              have xg := (XG.out.below HB3.out).cell (i := 0) rfl
              have xs := (XS.out.below HB3.out).cell (i := 0) rfl
              have HG1 := Lib.hid (refHas_any _ gl X Y wr (RG.out.below HB3.out))
              have HG2 := Lib.hid (fun (w' : World) (h : Below w7.heap.size w7 w') => refHas_any _ sl X Y w' (RS.out.below h))
              have HN1 := Lib.hid (fun e (h : RetB e (ValidP gl ∧ insideB gl X Y = true)) => retB_val h (show (nb = true ↔ ValidP gl ∧ insideB gl X Y = true) by
                rw [HN.out.1, GS.out X Y]
                constructor
                · rintro ⟨u, v, h, hi⟩
                  exact ⟨GG.out.valid, ⟨by omega, by omega⟩, u, v, by omega, by omega, by omega, by omega, hi⟩
                · rintro ⟨_, _, u, v, h1, h2, h3, h4, hi⟩
                  exact ⟨u, v, by omega, hi⟩))
              have HN2 := Lib.hid (fun e (h : RetB e (ValidP sl ∧ insideB sl X Y = true)) => retB_val h (show (ab = true ↔ ValidP sl ∧ insideB sl X Y = true) by
                rw [HN.out.2, SS.out X Y]
                constructor
                · intro h
                  exact ⟨GSh.out.valid, fun u v h1 h2 h3 h4 => h u v (by omega)⟩
                · rintro ⟨_, h⟩ u v hp
                  exact h u v (by omega) (by omega) (by omega) (by omega)))
              have HX := Lib.hid (fun (w' : World) (h : Below wr.heap.size wr w') => ((XS.out.below (below_step HB3.out h)).cell (i := 0) rfl))
              cases nb <;> cases ab
              all_goals
                go_wp2_with (first
                  | (go_at_call 10; (with_reducible refine Calls.mono HG1.out ?_); rintro e w8 ⟨hr, hb8⟩; obtain rfl := HN1.out _ hr; have HB5 := Lib.hid (below_step HB3.out hb8); have xs8 := HX.out _ hb8; clear hb8 hr)
                  | (go_at_call 10; (with_reducible refine Calls.mono (HG2.out _ HB5.out) ?_); rintro e w9 ⟨hr, hb9⟩; obtain rfl := HN2.out _ hr; have HB6 := Lib.hid (below_step HB5.out hb9); clear hb9 hr))
                go_roundw
                case rel => exact ⟨Y + 1, by simp, by omega, by omega, HB6.out⟩
                case measure => simp [intOf]; omega
        · go_wp2
          go_roundw
          case rel => exact ⟨X + 1, by simp, by omega, by omega, HB2.out⟩
          case measure => simp [intOf]; omega
    · go_wp2_with (go_at_call 11; refine (awake6_any _).mono ?_; rintro e w8 ⟨rfl, hb8⟩; have HB5 := Lib.hid (below_step HB.out hb8); clear hb8)
      go_ret
      exact ⟨rfl, below_step BW.out HB5.out⟩
end Go.Proofs.Ytdpnkbbphfcngab
