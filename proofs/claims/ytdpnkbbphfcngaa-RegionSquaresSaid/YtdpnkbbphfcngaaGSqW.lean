/- The law RegionSquares: the walk. -/
import Derived.Test.YtdpnkbbphfcngaaGSqM
import Derived.Test.YtdpnkbbphfcngaaGWth
import Derived.Test.YtdpnkbbphfcngaaGY
namespace Go.Proofs.Ytdpnkbbphfcngaa
open Go.RowKit Go.Shelf

theorem has_good {n : Nat} (v : Value) (l : List Rc) (x y : Int) (w : World) (h : RectsAt w v l) (hg : Good n l) (b : Bool) (hb : insideB l x y = b) :
    Calls Try.prog 25 #[.agg #[v], .int .i64 x, .int .i64 y] w fun e w' => e = .returned (.bool b) ∧ Below w.heap.size w w' :=
  (has_any v l x y w h).mono fun e w' ⟨hr, hb'⟩ => by
    refine ⟨?_, hb'⟩
    subst hb
    cases e1 : insideB l x y
    · exact hr.is_no fun h => by rw [e1] at h; exact absurd h.2 (by decide)
    · exact hr.is_yes ⟨hg.valid, e1⟩
theorem lawInside_eq (v : Value) (l : List Rc) (x y : Int) (w : World) (h : RectsAt w v l) (b : Bool) (hb : insideB l x y = b) :
    Calls Try.prog 24 #[.agg #[v], .int .i64 x, .int .i64 y] w fun e w' => e = .returned (.bool b) ∧ Below w.heap.size w w' := by
  subst hb
  exact lawInside_any v l x y w h

set_option maxHeartbeats 8000000 in
set_option maxRecDepth 100000 in
theorem squares_law (v : Value) (n : Nat) (g : Nat → Int) (W : World) (hI : IntsAt .i64 W v n g) (hcap : CapAt v) :
    Calls Try.prog 4 #[v] W fun e w' => e = .returned (.bool true) ∧ Below W.heap.size W w' := by
  have hNew := new_any v n g W hI hcap
  clear hI hcap
  go_enter Try.func4, Try.ntmps4
  go_wp2_with fail
  refine hNew.mono ?_
  rintro e w1 ⟨rfl, hb1, ht1, hz⟩
  have hRg := region_any w1 W.heap.size ht1 7 (by omega) (by omega) 4 (by omega)
  clear hNew ht1
  go_wp2_with fail
  refine hRg.mono ?_
  rintro e w2 ⟨va, a, rfl, hD⟩
  have hRg2 := region_any w2 W.heap.size hD.tape 7 (by omega) (by omega) 4 (by omega)
  clear hRg
  go_wp2_with fail
  refine hRg2.mono ?_
  rintro e w3 ⟨vb, b, rfl, hE⟩
  have Ga : Hid (Good 7 a) := drawn_good (n := 7) hD (by decide)
  have Gb : Hid (Good 7 b) := drawn_good (n := 7) hE (by decide)
  have RA : Hid (RectsAt w3 va a) := hD.at_.but hE.gr (fun k hk e => by have := hD.new k hk; have e' : W.heap.size = k := (by simpa using e); omega)
  have RB : Hid (RectsAt w3 vb b) := hE.at_
  have BW : Hid (Below W.heap.size W w3) := by
    have h1 : w1.grownBy w3 (some W.heap.size) := gr_and hD.gr hE.gr (fun j hj => .inr hj)
    exact ⟨h1.os.trans hb1.os, h1.tape.trans hb1.tape, h1.output.trans hb1.output, Nat.le_trans hb1.size h1.size, fun k hk => (h1.block k (by have := hb1.size; omega) (by simp; omega)).trans (hb1.block k hk)⟩
  clear hRg2 hD hE hb1 hz
  obtain ⟨pa, ca, rfl⟩ := RA.out.shape
  obtain ⟨pb, cb, rfl⟩ := RB.out.shape
  have hT := two_at w3 (.slice none 0 0) (.slice none 0 0)
  have x0 := hT.x0.free 0
  have x1 := hT.x0.cell (i := 0) rfl
  have x2 := (hT.x1.other (b' := w3.heap.size) (j := 0) (by omega) (.slice pa a.length ca)).free 0
  have x3 := (hT.x1.other (b' := w3.heap.size) (j := 0) (by omega) (.slice pa a.length ca)).cell (i := 0) rfl
  clear hT
  go_wp2_with fail
  clear x0 x1 x2 x3
  have hT := two_at w3 (.slice pa a.length ca) (.slice pb b.length cb)
  have Ra := Lib.hid (RA.out.below hT.bw)
  have Rb := Lib.hid (RB.out.below hT.bw)
  have Xa := Lib.hid hT.x0
  have Xb := Lib.hid hT.x1
  have BW4 := Lib.hid (below_step BW.out hT.bw)
  clear hT RA RB BW
  generalize (w3.alloc (.cells #[.slice pa a.length ca] 24)).alloc (.cells #[.slice pb b.length cb] 24) = w4 at *
  refine (union_any _ _ _ _ _ Ra.out Rb.out).mono ?_
  rintro e w5 ⟨⟨vp, p, ep, rfl, hr, hv, hq⟩, hb⟩
  obtain ⟨rfl, gp, ip⟩ := comb_good rfl (by decide) Ga.out Gb.out hq
  have Gp := Lib.hid gp
  have Ip := Lib.hid ip
  obtain ⟨pp, cp, rfl⟩ := hr.shape
  have HB6 := Lib.hid (show Below w4.heap.size w4 (w5.alloc (.cells #[.slice pp p.length cp] 24)) from hb.alloc hb.size _)
  have Xp := Lib.hid (BoxAt.new w5 #[.slice pp p.length cp] 24)
  have Rp := Lib.hid (hr.below ((Below.refl _ _).alloc (Nat.le_refl _) (.cells #[.slice pp p.length cp] 24)))
  clear hr hv hq hb gp ip
  have x2 := (BoxAt.new w5 #[.slice none 0 0] 24).free 0
  have z0 := (Xa.out.below HB6.out).cell (i := 0) rfl
  have z1 := (Xb.out.below HB6.out).cell (i := 0) rfl
  go_wp2_with fail
  clear x2 z0 z1
  generalize w5.alloc (.cells #[.slice pp p.length cp] 24) = w6 at *
  refine (both_any _ _ _ _ _ (Ra.out.below HB6.out) (Rb.out.below HB6.out)).mono ?_
  rintro e w7 ⟨⟨vq, q, eq, rfl, hr, hv, hq⟩, hb⟩
  obtain ⟨rfl, gq, iq⟩ := comb_good rfl (by decide) Ga.out Gb.out hq
  have Gq := Lib.hid gq
  have Iq := Lib.hid iq
  obtain ⟨pq, cq, rfl⟩ := hr.shape
  have HB8 := Lib.hid (show Below w6.heap.size w6 (w7.alloc (.cells #[.slice pq q.length cq] 24)) from hb.alloc hb.size _)
  have Xq := Lib.hid (BoxAt.new w7 #[.slice pq q.length cq] 24)
  have Rq := Lib.hid (hr.below ((Below.refl _ _).alloc (Nat.le_refl _) (.cells #[.slice pq q.length cq] 24)))
  clear hr hv hq hb gq iq
  have x2 := (BoxAt.new w7 #[.slice none 0 0] 24).free 0
  have z0 := ((Xa.out.below HB6.out).below HB8.out).cell (i := 0) rfl
  have z1 := ((Xb.out.below HB6.out).below HB8.out).cell (i := 0) rfl
  go_wp2_with fail
  clear x2 z0 z1
  generalize w7.alloc (.cells #[.slice pq q.length cq] 24) = w8 at *
  refine (without_any _ _ _ _ _ ((Ra.out.below HB6.out).below HB8.out) ((Rb.out.below HB6.out).below HB8.out)).mono ?_
  rintro e w9 ⟨⟨vr, r, er, rfl, hr, hv, hq⟩, hb⟩
  obtain ⟨rfl, gr, ir⟩ := comb_good rfl (by decide) Ga.out Gb.out hq
  have Gr := Lib.hid gr
  have Ir := Lib.hid ir
  obtain ⟨pr, cr, rfl⟩ := hr.shape
  have HB10 := Lib.hid (show Below w8.heap.size w8 (w9.alloc (.cells #[.slice pr r.length cr] 24)) from hb.alloc hb.size _)
  have Xr := Lib.hid (BoxAt.new w9 #[.slice pr r.length cr] 24)
  have Rr := Lib.hid (hr.below ((Below.refl _ _).alloc (Nat.le_refl _) (.cells #[.slice pr r.length cr] 24)))
  clear hr hv hq hb gr ir
  have x2 := (BoxAt.new w9 #[.slice none 0 0] 24).free 0
  go_wp2_with fail
  clear x2
  generalize w9.alloc (.cells #[.slice pr r.length cr] 24) = w10 at *
  have Ya := Lib.hid ((((Xa.out.below HB6.out).below HB8.out).below HB10.out))
  have Sa := Lib.hid ((((Ra.out.below HB6.out).below HB8.out).below HB10.out))
  have Yb := Lib.hid ((((Xb.out.below HB6.out).below HB8.out).below HB10.out))
  have Sb := Lib.hid ((((Rb.out.below HB6.out).below HB8.out).below HB10.out))
  have Yp := Lib.hid (((Xp.out.below HB8.out).below HB10.out))
  have Sp := Lib.hid (((Rp.out.below HB8.out).below HB10.out))
  have Yq := Lib.hid ((Xq.out.below HB10.out))
  have Sq := Lib.hid ((Rq.out.below HB10.out))
  have Yr := Lib.hid (Xr.out)
  have Sr := Lib.hid (Rr.out)
  have BWK := Lib.hid (below_step (below_step (below_step BW4.out HB6.out) HB8.out) HB10.out)
  clear BW4 HB6 HB8 HB10 Xa Ra Xb Rb Xp Rp Xq Rq Xr Rr
  have KS := Lib.hid (fun (w' : World) (h : Below w10.heap.size w10 w') => (⟨(Ya.out.below h).cell (i := 0) rfl, (Yb.out.below h).cell (i := 0) rfl, (Yp.out.below h).cell (i := 0) rfl, (Yq.out.below h).cell (i := 0) rfl, (Yr.out.below h).cell (i := 0) rfl, h⟩ : w'.cell? ⟨w3.heap.size, 0, none⟩ = some (.slice pa a.length ca) ∧ w'.cell? ⟨w3.heap.size + 1, 0, none⟩ = some (.slice pb b.length cb) ∧ w'.cell? ⟨w5.heap.size, 0, none⟩ = some (.slice pp p.length cp) ∧ w'.cell? ⟨w7.heap.size, 0, none⟩ = some (.slice pq q.length cq) ∧ w'.cell? ⟨w9.heap.size, 0, none⟩ = some (.slice pr r.length cr) ∧ Below w10.heap.size w10 w'))
  have La := Lib.hid (fun (w' : World) (h : Below w10.heap.size w10 w') (x y : Int) (t : Bool) (ht : insideB a x y = t) => lawInside_eq _ _ x y w' (Sa.out.below h) t ht)
  have Lb := Lib.hid (fun (w' : World) (h : Below w10.heap.size w10 w') (x y : Int) (t : Bool) (ht : insideB b x y = t) => lawInside_eq _ _ x y w' (Sb.out.below h) t ht)
  have Ha := Lib.hid (fun (w' : World) (h : Below w10.heap.size w10 w') (x y : Int) (t : Bool) (ht : insideB a x y = t) => has_good _ _ x y w' (Sa.out.below h) Ga.out t ht)
  have Hp := Lib.hid (fun (w' : World) (h : Below w10.heap.size w10 w') (x y : Int) (t : Bool) (ht : insideB p x y = t) => has_good _ _ x y w' (Sp.out.below h) Gp.out t ht)
  have Hq := Lib.hid (fun (w' : World) (h : Below w10.heap.size w10 w') (x y : Int) (t : Bool) (ht : insideB q x y = t) => has_good _ _ x y w' (Sq.out.below h) Gq.out t ht)
  have Hr := Lib.hid (fun (w' : World) (h : Below w10.heap.size w10 w') (x y : Int) (t : Bool) (ht : insideB r x y = t) => has_good _ _ x y w' (Sr.out.below h) Gr.out t ht)
  have KA := Lib.hid (fun (w' : World) (h : Below w10.heap.size w10 w') => area_any _ _ w' (Sa.out.below h))
  have E8 := Lib.hid Ga.out.area8
  clear Ya Sa Yb Sb Yp Sp Yq Sq Yr Sr Gb Gp Gq Gr
  generalize hna : a.length = na at *
  generalize hnb : b.length = nb at *
  generalize hnp : p.length = np at *
  generalize hnq : q.length = nq at *
  generalize hnr : r.length = nr at *
  clear hna hnb hnp hnq hnr
  go_loopw [12, 13] (fun s i wr => ∃ k : Nat, k ≤ 8 ∧ i = .int .i64 k ∧ s = .int .i64 (sqN a k) ∧ Below w10.heap.size w10 wr) (fun _ i _ => 8 - (intOf i).toNat)
  case atStart => exact ⟨0, by omega, rfl, rfl, Below.refl _ _⟩
  case round =>
    obtain ⟨k, hk, rfl, rfl, hb⟩ := hrel
    by_cases hk8 : k < 8
    · have hk' : (k : Int) < 8 := by omega
      have HB := Lib.hid hb
      have HSQ := Lib.hid (sqN_succ a k)
      have HSL := Lib.hid (sqN_le a k)
      clear hb
      go_wp2
      go_loopw [12, 14] (fun s i wk => ∃ j : Nat, j ≤ 8 ∧ i = .int .i64 j ∧ s = .int .i64 (sqN a k + colN a k j) ∧ Below w10.heap.size w10 wk) (fun _ i _ => 8 - (intOf i).toNat)
      case atStart => exact ⟨0, by omega, rfl, by simp [colN, sumN], HB.out⟩
      case round =>
        obtain ⟨j, hj, rfl, rfl, hb⟩ := hrel
        by_cases hj8 : j < 8
        · have hj' : (j : Int) < 8 := by omega
          have HCS := Lib.hid (colN_succ a k j)
          have hcl := colN_le a k j
          have hsl := HSL.out
          obtain ⟨s, hs⟩ : ∃ s, s = sqN a k + colN a k j := ⟨_, rfl⟩
          have hs0 : 0 ≤ s := by omega
          have hs1 : s ≤ 1000 := by omega
          rw [← hs]
          have HS := Lib.hid hs
          have kb0 := hb
          have ip := Ip.out (k : Int) (j : Int)
          have iq := Iq.out (k : Int) (j : Int)
          have ir := Ir.out (k : Int) (j : Int)
          obtain ⟨t, ht⟩ : ∃ t, t = insideB b (k : Int) (j : Int) := ⟨_, rfl⟩
          rw [← ht] at ip iq ir
          have IB := Lib.hid ht.symm
          clear hs hcl hsl hb ht
          have SW := Lib.hid (show Value.int .i64 (wrap64 (s + 1)) = .int .i64 (s + 1) from congrArg _ (wrap_in (by omega) (by omega)))
          cases hA : insideB a (k : Int) (j : Int)
          · rw [hA] at ip iq ir HCS
            have IP := Lib.hid (show insideB p (k : Int) (j : Int) = t by rw [ip]; cases t <;> rfl)
            have IQ := Lib.hid (show insideB q (k : Int) (j : Int) = false by rw [iq]; cases t <;> rfl)
            have IR := Lib.hid (show insideB r (k : Int) (j : Int) = false by rw [ir]; cases t <;> rfl)
            have IA := Lib.hid hA
            clear ip iq ir hA
            go_wp2_with fail
            refine wp_region_noPanic ?_
            go_region_held3 (fun w' => w'.cell? ⟨w3.heap.size, 0, none⟩ = some (.slice pa na ca) ∧ w'.cell? ⟨w3.heap.size + 1, 0, none⟩ = some (.slice pb nb cb) ∧ w'.cell? ⟨w5.heap.size, 0, none⟩ = some (.slice pp np cp) ∧ w'.cell? ⟨w7.heap.size, 0, none⟩ = some (.slice pq nq cq) ∧ w'.cell? ⟨w9.heap.size, 0, none⟩ = some (.slice pr nr cr) ∧ Below w10.heap.size w10 w') (exact KS.out _ (by first | assumption | exact Below.drew (by assumption))) (first
              | (go_at_call 24; (with_reducible refine (La.out _ (by first | assumption | exact Below.drew (by assumption)) _ _ false IA.out).mono ?_); rintro e w' ⟨rfl, hb⟩; have kb : Below w10.heap.size w10 w' := below_step (by first | assumption | exact Below.drew (by assumption)) hb; clear hb)
              | (go_at_call 24; (with_reducible refine (Lb.out _ (by first | assumption | exact Below.drew (by assumption)) _ _ t IB.out).mono ?_); rintro e w' ⟨rfl, hb⟩; have kb : Below w10.heap.size w10 w' := below_step (by first | assumption | exact Below.drew (by assumption)) hb; clear hb))
            refine NoPanic.normal ?_
            have sw := SW.out
            obtain ⟨c0, c1, c2, c3, c4, _⟩ := KS.out _ kb
            go_wp2_with (first
              | (go_at_call 25; (with_reducible refine (Ha.out _ (by assumption) _ _ false IA.out).mono ?_); rintro e w' ⟨rfl, hb⟩; have kb : Below w10.heap.size w10 w' := below_step (by assumption) hb; clear hb c0 c1 c2 c3 c4; obtain ⟨c0, c1, c2, c3, c4, _⟩ := KS.out _ kb)
              | (go_at_call 25; (with_reducible refine (Hp.out _ (by assumption) _ _ t IP.out).mono ?_); rintro e w' ⟨rfl, hb⟩; have kb : Below w10.heap.size w10 w' := below_step (by assumption) hb; clear hb c0 c1 c2 c3 c4; obtain ⟨c0, c1, c2, c3, c4, _⟩ := KS.out _ kb)
              | (go_at_call 25; (with_reducible refine (Hq.out _ (by assumption) _ _ false IQ.out).mono ?_); rintro e w' ⟨rfl, hb⟩; have kb : Below w10.heap.size w10 w' := below_step (by assumption) hb; clear hb c0 c1 c2 c3 c4; obtain ⟨c0, c1, c2, c3, c4, _⟩ := KS.out _ kb)
              | (go_at_call 25; (with_reducible refine (Hr.out _ (by assumption) _ _ false IR.out).mono ?_); rintro e w' ⟨rfl, hb⟩; have kb : Below w10.heap.size w10 w' := below_step (by assumption) hb; clear hb c0 c1 c2 c3 c4; obtain ⟨c0, c1, c2, c3, c4, _⟩ := KS.out _ kb))
            go_roundw
            case rel => exact ⟨j + 1, by omega, by simp, by rw [HCS.out, ← Int.add_assoc, ← HS.out]; simp [ind], by assumption⟩
            case measure => simp [intOf]; omega
          · rw [hA] at ip iq ir HCS
            have IP := Lib.hid (show insideB p (k : Int) (j : Int) = true by rw [ip]; cases t <;> rfl)
            have IQ := Lib.hid (show insideB q (k : Int) (j : Int) = t by rw [iq]; cases t <;> rfl)
            have IR := Lib.hid (show insideB r (k : Int) (j : Int) = (!t) by rw [ir]; cases t <;> rfl)
            have IA := Lib.hid hA
            clear ip iq ir hA
            go_wp2_with fail
            refine wp_region_noPanic ?_
            go_region_held3 (fun w' => w'.cell? ⟨w3.heap.size, 0, none⟩ = some (.slice pa na ca) ∧ w'.cell? ⟨w3.heap.size + 1, 0, none⟩ = some (.slice pb nb cb) ∧ w'.cell? ⟨w5.heap.size, 0, none⟩ = some (.slice pp np cp) ∧ w'.cell? ⟨w7.heap.size, 0, none⟩ = some (.slice pq nq cq) ∧ w'.cell? ⟨w9.heap.size, 0, none⟩ = some (.slice pr nr cr) ∧ Below w10.heap.size w10 w') (exact KS.out _ (by first | assumption | exact Below.drew (by assumption))) (first
              | (go_at_call 24; (with_reducible refine (La.out _ (by first | assumption | exact Below.drew (by assumption)) _ _ true IA.out).mono ?_); rintro e w' ⟨rfl, hb⟩; have kb : Below w10.heap.size w10 w' := below_step (by first | assumption | exact Below.drew (by assumption)) hb; clear hb)
              | (go_at_call 24; (with_reducible refine (Lb.out _ (by first | assumption | exact Below.drew (by assumption)) _ _ t IB.out).mono ?_); rintro e w' ⟨rfl, hb⟩; have kb : Below w10.heap.size w10 w' := below_step (by first | assumption | exact Below.drew (by assumption)) hb; clear hb))
            refine NoPanic.normal ?_
            have sw := SW.out
            obtain ⟨c0, c1, c2, c3, c4, _⟩ := KS.out _ kb
            go_wp2_with (first
              | (go_at_call 25; (with_reducible refine (Ha.out _ (by assumption) _ _ true IA.out).mono ?_); rintro e w' ⟨rfl, hb⟩; have kb : Below w10.heap.size w10 w' := below_step (by assumption) hb; clear hb c0 c1 c2 c3 c4; obtain ⟨c0, c1, c2, c3, c4, _⟩ := KS.out _ kb)
              | (go_at_call 25; (with_reducible refine (Hp.out _ (by assumption) _ _ true IP.out).mono ?_); rintro e w' ⟨rfl, hb⟩; have kb : Below w10.heap.size w10 w' := below_step (by assumption) hb; clear hb c0 c1 c2 c3 c4; obtain ⟨c0, c1, c2, c3, c4, _⟩ := KS.out _ kb)
              | (go_at_call 25; (with_reducible refine (Hq.out _ (by assumption) _ _ t IQ.out).mono ?_); rintro e w' ⟨rfl, hb⟩; have kb : Below w10.heap.size w10 w' := below_step (by assumption) hb; clear hb c0 c1 c2 c3 c4; obtain ⟨c0, c1, c2, c3, c4, _⟩ := KS.out _ kb)
              | (go_at_call 25; (with_reducible refine (Hr.out _ (by assumption) _ _ (!t) IR.out).mono ?_); rintro e w' ⟨rfl, hb⟩; have kb : Below w10.heap.size w10 w' := below_step (by assumption) hb; clear hb c0 c1 c2 c3 c4; obtain ⟨c0, c1, c2, c3, c4, _⟩ := KS.out _ kb))
            go_roundw
            case rel => exact ⟨j + 1, by omega, by simp, by rw [HCS.out, ← Int.add_assoc, ← HS.out]; rfl, by assumption⟩
            case measure => simp [intOf]; omega
        · obtain rfl : j = 8 := by omega
          have HB2 := Lib.hid hb
          clear hb
          go_wp2
          go_roundw
          case rel => exact ⟨k + 1, by omega, by simp, by rw [HSQ.out], HB2.out⟩
          case measure => simp [intOf]; omega
    · obtain rfl : k = 8 := by omega
      obtain ⟨c0, _, _, _, _, kb0⟩ := KS.out _ hb
      clear hb
      have e8 := E8.out
      go_wp2_with (first
        | (go_at_call 26; refine Calls.mono (KA.out _ kb0) ?_; rintro e w' ⟨z, rfl, hz, hb⟩; obtain rfl := (hz.1 Ga.out.valid).trans e8; have kb : Below w10.heap.size w10 w' := below_step kb0 hb; clear hb hz)
        | (go_at_call 12; refine Calls.mono (awake_any _) ?_; rintro e w'' ⟨rfl, hb⟩; have kb2 : Below w10.heap.size w10 w'' := below_step kb hb; clear hb))
      go_ret
      exact ⟨rfl, below_step BWK.out kb2⟩
end Go.Proofs.Ytdpnkbbphfcngaa
