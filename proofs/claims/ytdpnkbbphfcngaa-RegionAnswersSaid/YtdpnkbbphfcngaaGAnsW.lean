/- The law RegionAnswers: the walk. -/
import Derived.Test.YtdpnkbbphfcngaaGPairW
import Derived.Test.YtdpnkbbphfcngaaGBrk
namespace Go.Proofs.Ytdpnkbbphfcngaa
open Go.RowKit Go.Shelf

theorem rects_news {w : World} {b off cap : Nat} {l : List Rc} (h : RectsAt w (.slice (some ⟨b, off, none⟩) l.length cap) l) : ∀ j u, (l.flatMap encR)[j]? = some u → w.cell? ((⟨b, off, none⟩ : Addr).add j) = some u := by
  obtain ⟨p, cap', e1, _, _, hc⟩ := h
  cases e1
  intro j u hu
  have hj : j < l.length * 4 := by
    have := (List.getElem?_eq_some_iff.1 hu).1
    rwa [flatMap_len encR 4 encR_len] at this
  have hj4 : j / 4 < l.length := by omega
  obtain ⟨b', off', e', _, c0, c1, c2, c3⟩ := hc (j / 4) hj4
  cases e'
  have hu' : (encR l[j / 4]!)[j % 4]? = some u := by
    rw [← flatMap_get encR 4 encR_len l j hj]; exact hu
  have had : (⟨b, off, none⟩ : Addr).add j = ⟨b, off + j, none⟩ := by simp [Addr.add]
  rw [had]
  have hm4 : j % 4 = 0 ∨ j % 4 = 1 ∨ j % 4 = 2 ∨ j % 4 = 3 := by omega
  rcases hm4 with h4 | h4 | h4 | h4 <;> rw [h4] at hu' <;> cases hu'
  · rw [show off + j = off + j / 4 * 4 by omega]; exact c0
  · rw [show off + j = off + j / 4 * 4 + 1 by omega]; exact c1
  · rw [show off + j = off + j / 4 * 4 + 2 by omega]; exact c2
  · rw [show off + j = off + j / 4 * 4 + 3 by omega]; exact c3

theorem step_append_rects {P : Program} (w : World) {ops : Array Oper} {o : Oper} {a : Act} {K : Act → World → Prop} {Q : Exit → Act → World → Prop} {E : Prop} (hgd : o.guard = none) (s x : Operand) (t : TypeId)
    (ho : o.op = .call { callee := .builtin .append, args := #[s, x], argTypes := #[t, t] })
    (w0 : World) (hb : Below w0.heap.size w0 w) (e : TypeId) (i : TypeInfo) (z : Value) (bytes : Nat) (ht : P.underlying t = some (.slice e)) (hi : P.info? e = some i) (hz : i.zero = some z)
    (hsize : i.size = 4) (hby : i.bytes = bytes) (hzs : z.cells.size = 4)
    (v : Value) (n : Nat) (xs : List Value) (hs : a.eval s = v) (hown : w.ownsRow w0.heap.size e 4 v n xs)
    (v2 : Value) (l : List Rc) (hx : a.eval x = v2) (h2 : RectsAt w v2 l)
    (h63 : n + l.length ≤ maxLen) (hbytes : (n + l.length) * bytes ≤ 140737488355328)
    (h : ∀ v' w', w'.ownsRow w0.heap.size e 4 v' (n + l.length) (xs ++ l.flatMap encR) → w.grownBy w' v.ownBlock → Below w0.heap.size w0 w' → K (a.put o.dst v') w') :
    if Region.wanted o (yielded ops a.tmps) = true then Oper.wp P o a w K Q else E := by
  obtain ⟨p, cap, rfl⟩ := h2.shape
  cases p with
  | none =>
    obtain rfl : l = [] := by
      obtain ⟨p, cap', e1, _, _, hc⟩ := h2
      cases e1
      cases l with
      | nil => rfl
      | cons r m => obtain ⟨b, off, e, _⟩ := hc 0 (by simp); cases e
    have hw : Region.wanted o (yielded ops a.tmps) = true := by simp [Region.wanted, hgd]
    rw [if_pos hw]
    have hrun : (Builtin.append_ #[t, t] o.type #[v, .slice none 0 cap]).run P w = .ok v w := by
      rcases hown.2 with ⟨rfl, rfl⟩ | ⟨g, c, cur, rfl, _, _, hnc, _⟩
      · simp [Builtin.append_, run_underlying ht, sizeOf, typeInfo, hi, Builtin.lenOf, Builtin.firstCells]
      · simp [Builtin.append_, run_underlying ht, sizeOf, typeInfo, hi, Builtin.lenOf, Builtin.firstCells, hnc, storeCells]
    have hx' : a.eval x = .slice none 0 cap := hx
    unfold Oper.wp
    simp [execOp, ho, resolve, invoke, builtin, hs, hx', hrun, Result.andThen]
    exact h v w (by simpa using hown) (World.grownBy.refl _ _) hb
  | some ad =>
    by_cases h0 : 0 < l.length
    · obtain ⟨p, cap', e1, _, _, hc⟩ := id h2
      cases e1
      obtain ⟨b, off, e2, _⟩ := hc 0 h0
      cases e2
      exact step_append_b w hgd s x t ho w0 hb e i z 4 bytes ht hi hz hsize hby hzs (by decide) v n xs hs hown _ l.length (l.flatMap encR) hx (.inr ⟨_, cap, rfl, rects_news h2⟩) (flatMap_len encR 4 encR_len l) (oneR l) h63 hbytes h
    · obtain rfl : l = [] := List.length_eq_zero_iff.1 (by omega)
      exact step_append_b w hgd s x t ho w0 hb e i z 4 bytes ht hi hz hsize hby hzs (by decide) v n xs hs hown _ 0 [] hx (.inr ⟨ad, cap, rfl, fun j u hu => by cases hu⟩) rfl (fun u hu => by cases hu) h63 hbytes h

def pick3 {α : Type} (x y z : α) : Nat → α
  | 0 => x
  | 1 => y
  | _ => z

set_option maxHeartbeats 16000000 in
set_option maxRecDepth 200000 in
theorem answers_law (va vb : Value) (a b : List Rc) (x y : Int) (v : Value) (n : Nat) (g : Nat → Int) (W : World) (ha : RectsAt W va a) (hb : RectsAt W vb b) (hI : IntsAt .i64 W v n g) (hcap : CapAt v) :
    Calls Try.prog 3 #[.agg #[va], .agg #[vb], .int .i64 x, .int .i64 y, v] W fun e w' => e = .returned (.bool true) ∧ Below W.heap.size W w' := by
  obtain ⟨i0, hi, hz0, hz1, hz2⟩ := info_parts info_rect
  obtain ⟨pa, ca, rfl⟩ := ha.shape
  obtain ⟨pb, cb, rfl⟩ := hb.shape
  have hT := two_at W (.slice pa a.length ca) (.slice pb b.length cb)
  have hN := new_any v n g _ (hI.kept hT.bw) hcap
  have HT := Lib.hid hT
  have HA := Lib.hid ha
  have HB := Lib.hid hb
  have ma : (a.length : Int) ≤ 9223372036854775807 := by obtain ⟨_, _, _, hm, _⟩ := ha; unfold maxLen at hm; omega
  have mb : (b.length : Int) ≤ 9223372036854775807 := by obtain ⟨_, _, _, hm, _⟩ := hb; unfold maxLen at hm; omega
  clear hT ha hb hI hcap
  by_cases hA8 : a.length ≤ 8
  · by_cases hB8 : b.length ≤ 8
    · have A8 := Lib.hid hA8
      have B8 := Lib.hid hB8
      have ga : ¬ ((8 : Int) < (a.length : Int)) := by omega
      have gb : ¬ ((8 : Int) < (b.length : Int)) := by omega
      clear hA8 hB8 ma mb
      go_enter Try.func3, Try.ntmps3
      go_wp2_with fail
      generalize (W.alloc (.cells #[.slice pa a.length ca] 24)).alloc (.cells #[.slice pb b.length cb] 24) = w0 at *
      clear ga gb
      refine hN.mono ?_
      rintro e w1 ⟨rfl, hb1, ht1, hz1'⟩
      have hBr := broken_any w1 w0.heap.size ht1
      have X1a := Lib.hid (HT.out.x0.below hb1)
      have X1b := Lib.hid (HT.out.x1.below hb1)
      have BW1 := Lib.hid (below_step HT.out.bw hb1)
      have SZ := Lib.hid (show W.heap.size + 2 = w0.heap.size ∧ w1.heap.size = w0.heap.size + 1 from ⟨HT.out.sz.symm, hz1'⟩)
      clear hN hb1 ht1 hz1'
      go_wp2_with fail
      refine hBr.mono ?_
      rintro e w2 ⟨vc, c, rfl, hC⟩
      have hBr2 := broken_any w2 w0.heap.size hC.tape
      clear hBr
      go_wp2_with fail
      refine hBr2.mono ?_
      rintro e w3 ⟨vd, d, rfl, hD⟩
      have h13 : w1.grownBy w3 (some w0.heap.size) := gr_and hC.gr hD.gr (fun j hj => .inr hj)
      have X3a := Lib.hid (X1a.out.but h13 (by have := SZ.out; simp; omega))
      have X3b := Lib.hid (X1b.out.but h13 (by have := SZ.out; simp; omega))
      have BW3 : Hid (Below W.heap.size W w3) := by
        have h1 := BW1.out
        exact ⟨h13.os.trans h1.os, h13.tape.trans h1.tape, h13.output.trans h1.output, Nat.le_trans h1.size h13.size, fun k hk => (h13.block k (by have := h1.size; omega) (by have := SZ.out; simp; omega)).trans (h1.block k hk)⟩
      have R3a := Lib.hid (HA.out.below BW3.out)
      have R3b := Lib.hid (HB.out.below BW3.out)
      have R3c : Hid (RectsAt w3 vc c) := hC.at_.but hD.gr (fun k hk e => by have := hC.new k hk; have := SZ.out; have e' : w0.heap.size = k := (by simpa using e); omega)
      have R3d : Hid (RectsAt w3 vd d) := hD.at_
      have C41 := Lib.hid hC.len
      have D41 := Lib.hid hD.len
      clear hBr2 hC hD h13 X1a X1b BW1 HT HA HB
      obtain ⟨pc, cc, rfl⟩ := R3c.out.shape
      obtain ⟨pd, cd, rfl⟩ := R3d.out.shape
      have hT := two_at w3 (.slice none 0 0) (.slice none 0 0)
      have x0 := hT.x0.free 0
      have x1 := hT.x0.cell (i := 0) rfl
      have x2 := (hT.x1.other (b' := w3.heap.size) (j := 0) (by omega) (.slice pc c.length cc)).free 0
      have x3 := (hT.x1.other (b' := w3.heap.size) (j := 0) (by omega) (.slice pc c.length cc)).cell (i := 0) rfl
      clear hT
      go_wp2_with fail
      clear x0 x1 x2 x3
      have hT := two_at w3 (.slice pc c.length cc) (.slice pd d.length cd)
      have Ra := Lib.hid (R3a.out.below hT.bw)
      have Rb := Lib.hid (R3b.out.below hT.bw)
      have Rc := Lib.hid (R3c.out.below hT.bw)
      have Rd := Lib.hid (R3d.out.below hT.bw)
      have Xa := Lib.hid (X3a.out.below hT.bw)
      have Xb := Lib.hid (X3b.out.below hT.bw)
      have Xc := Lib.hid hT.x0
      have Xd := Lib.hid hT.x1
      have BW4 := Lib.hid (below_step BW3.out hT.bw)
      clear hT R3a R3b R3c R3d X3a X3b BW3 SZ
      generalize (w3.alloc (.cells #[.slice pc c.length cc] 24)).alloc (.cells #[.slice pd d.length cd] 24) = w4 at *
      have KS := Lib.hid (fun (w' : World) (h : Below w4.heap.size w4 w') => (⟨(Xa.out.below h).cell (i := 0) rfl, (Xc.out.below h).cell (i := 0) rfl, (Xb.out.below h).cell (i := 0) rfl, h⟩ : w'.cell? ⟨W.heap.size, 0, none⟩ = some (.slice pa a.length ca) ∧ w'.cell? ⟨w3.heap.size, 0, none⟩ = some (.slice pc c.length cc) ∧ w'.cell? ⟨W.heap.size + 1, 0, none⟩ = some (.slice pb b.length cb) ∧ Below w4.heap.size w4 w'))
      have q1 : Below w4.heap.size w4 (w4.alloc (.cells #[] 44)).drew := ((Below.refl _ _).alloc (Nat.le_refl _) _).drew
      have Q1 := Lib.hid q1
      have la8 := A8.out
      have lb8 := B8.out
      have lc41 := C41.out
      have L1 := Lib.hid (show 0 + c.length ≤ maxLen from by unfold maxLen; omega)
      have L2 := Lib.hid (show (0 + c.length) * 32 ≤ 140737488355328 from by omega)
      have L3 := Lib.hid (show 0 + c.length + b.length ≤ maxLen from by unfold maxLen; omega)
      have L4 := Lib.hid (show (0 + c.length + b.length) * 32 ≤ 140737488355328 from by omega)
      have R1c := Lib.hid (Rc.out.below q1)
      clear q1 la8 lb8 lc41
      refine wp_region_noPanic ?_
      go_region_held3 (fun w' => w'.cell? ⟨W.heap.size, 0, none⟩ = some (.slice pa a.length ca) ∧ w'.cell? ⟨w3.heap.size, 0, none⟩ = some (.slice pc c.length cc) ∧ w'.cell? ⟨W.heap.size + 1, 0, none⟩ = some (.slice pb b.length cb) ∧ Below w4.heap.size w4 w') (exact KS.out _ (by first | assumption | exact Below.drew (by assumption) | exact Below.drew (Below.refl _ _) | exact Q1.out | exact Below.alloc kb3 kb3.size _)) (first
        | (refine step_append_rects _ (by rfl) _ _ _ (by rfl) w4 Q1.out 44 i0 _ 32 Try.underlying22 hi hz0 hz1 hz2 rfl (.slice (some ⟨w4.heap.size, 0, none⟩) 0 0) 0 [] (by rfl) (made0R w4 (Nat.le_refl _)) (.slice pc c.length cc) c (by rfl) R1c.out L1.out L2.out ?_; intro v2 w5 hown2 hgr2 kb2)
        | (refine step_append_rects _ (by rfl) _ _ _ (by rfl) w4 kb2 44 i0 _ 32 Try.underlying22 hi hz0 hz1 hz2 rfl v2 (0 + c.length) ([] ++ c.flatMap encR) (by rfl) hown2 (.slice pb b.length cb) b (by rfl) (Rb.out.below kb2) L3.out L4.out ?_; intro v3 w6 hown3 hgr3 kb3; obtain ⟨p3, c3, rfl⟩ := own_shape hown3)
        | fail)
      refine NoPanic.normal ?_
      have O3 : RectsAt w6 (.slice p3 (c ++ b).length c3) (c ++ b) := OwnAt.rects (B := w4.heap.size) (by unfold OwnAt; simpa using hown3)
      have elen : (c ++ b).length = c.length + b.length := List.length_append
      rw [elen] at O3
      have hbx := BoxAt.new w6 #[.slice pa a.length ca, .slice pc c.length cc, .slice p3 (c.length + b.length) c3] 22
      have bL : Below w4.heap.size w4 (w6.alloc (.cells #[.slice pa a.length ca, .slice pc c.length cc, .slice p3 (c.length + b.length) c3] 22)) := kb3.alloc kb3.size _
      have HBX := Lib.hid hbx
      have RL := Lib.hid (show ∀ k : Nat, k < 3 → RectsAt (w6.alloc (.cells #[.slice pa a.length ca, .slice pc c.length cc, .slice p3 (c.length + b.length) c3] 22)) (pick3 (.slice pa a.length ca) (.slice pc c.length cc) (.slice p3 (c.length + b.length) c3) k) (pick3 a c (c ++ b) k) from fun k _ => by
        match k with
        | 0 => exact Ra.out.below bL
        | 1 => exact Rc.out.below bL
        | k + 2 => exact O3.below ((Below.refl _ _).alloc (Nat.le_refl _) _))
      have CL := Lib.hid (show ∀ k : Nat, k < 3 → (#[.slice pa a.length ca, .slice pc c.length cc, .slice p3 (c.length + b.length) c3] : Array Value)[k]? = some (pick3 (.slice pa a.length ca) (.slice pc c.length cc) (.slice p3 (c.length + b.length) c3) k) from fun k hk => by
        match k, hk with
        | 0, _ => rfl
        | 1, _ => rfl
        | 2, _ => rfl)
      have YS := Lib.hid (fun (w' : World) (h : Below (w6.alloc (.cells #[.slice pa a.length ca, .slice pc c.length cc, .slice p3 (c.length + b.length) c3] 22)).heap.size (w6.alloc (.cells #[.slice pa a.length ca, .slice pc c.length cc, .slice p3 (c.length + b.length) c3] 22)) w') => (⟨((Xa.out.below bL).below h).cell (i := 0) rfl, ((Xb.out.below bL).below h).cell (i := 0) rfl, ((Xc.out.below bL).below h).cell (i := 0) rfl, ((Xd.out.below bL).below h).cell (i := 0) rfl, h⟩ : w'.cell? ⟨W.heap.size, 0, none⟩ = some (.slice pa a.length ca) ∧ w'.cell? ⟨W.heap.size + 1, 0, none⟩ = some (.slice pb b.length cb) ∧ w'.cell? ⟨w3.heap.size, 0, none⟩ = some (.slice pc c.length cc) ∧ w'.cell? ⟨w3.heap.size + 1, 0, none⟩ = some (.slice pd d.length cd) ∧ Below (w6.alloc (.cells #[.slice pa a.length ca, .slice pc c.length cc, .slice p3 (c.length + b.length) c3] 22)).heap.size (w6.alloc (.cells #[.slice pa a.length ca, .slice pc c.length cc, .slice p3 (c.length + b.length) c3] 22)) w'))
      have P1 := Lib.hid (fun (w' : World) (h : Below (w6.alloc (.cells #[.slice pa a.length ca, .slice pc c.length cc, .slice p3 (c.length + b.length) c3] 22)).heap.size (w6.alloc (.cells #[.slice pa a.length ca, .slice pc c.length cc, .slice p3 (c.length + b.length) c3] 22)) w') (x y : Int) => pair_any _ _ _ _ x y w' ((Ra.out.below bL).below h) ((Rb.out.below bL).below h) (Nat.le_trans A8.out (by decide)) (Nat.le_trans B8.out (by decide)))
      have P2 := Lib.hid (fun (w' : World) (h : Below (w6.alloc (.cells #[.slice pa a.length ca, .slice pc c.length cc, .slice p3 (c.length + b.length) c3] 22)).heap.size (w6.alloc (.cells #[.slice pa a.length ca, .slice pc c.length cc, .slice p3 (c.length + b.length) c3] 22)) w') (x y : Int) => pair_any _ _ _ _ x y w' ((Rc.out.below bL).below h) ((Rd.out.below bL).below h) (Nat.le_trans C41.out (by decide)) (Nat.le_trans D41.out (by decide)))
      have P3 := Lib.hid (fun (w' : World) (h : Below (w6.alloc (.cells #[.slice pa a.length ca, .slice pc c.length cc, .slice p3 (c.length + b.length) c3] 22)).heap.size (w6.alloc (.cells #[.slice pa a.length ca, .slice pc c.length cc, .slice p3 (c.length + b.length) c3] 22)) w') (x y : Int) => pair_any _ _ _ _ x y w' ((Ra.out.below bL).below h) ((Rd.out.below bL).below h) (Nat.le_trans A8.out (by decide)) (Nat.le_trans D41.out (by decide)))
      have P4 := Lib.hid (fun (w' : World) (h : Below (w6.alloc (.cells #[.slice pa a.length ca, .slice pc c.length cc, .slice p3 (c.length + b.length) c3] 22)).heap.size (w6.alloc (.cells #[.slice pa a.length ca, .slice pc c.length cc, .slice p3 (c.length + b.length) c3] 22)) w') (x y : Int) => pair_any _ _ _ _ x y w' ((Rc.out.below bL).below h) ((Rc.out.below bL).below h) (Nat.le_trans C41.out (by decide)) (Nat.le_trans C41.out (by decide)))
      have BWL := Lib.hid (below_step BW4.out bL)
      clear hbx bL O3 elen kb3 hown3 hgr3 kb2 hown2 hgr2 KS Q1 R1c L1 L2 L3 L4 Ra Rb Rc Rd Xa Xb Xc Xd BW4
      generalize w6.alloc (.cells #[.slice pa a.length ca, .slice pc c.length cc, .slice p3 (c.length + b.length) c3] 22) = wL at *
      generalize c.length + b.length = ncb at *
      generalize hna : a.length = na at *
      generalize hnb : b.length = nb at *
      generalize hnc : c.length = nc at *
      generalize hnd : d.length = nd at *
      go_wp2_with fail
      go_loopw [50] (fun i wr => ∃ k : Nat, k ≤ 3 ∧ i = .int .i64 k ∧ Below wL.heap.size wL wr) (fun i _ => 3 - (intOf i).toNat)
      case atStart => exact ⟨0, by omega, rfl, Below.refl _ _⟩
      case round =>
        obtain ⟨k, hk, rfl, hb⟩ := hrel
        by_cases hk3 : k < 3
        · have hk' : (k : Int) < 3 := by omega
          have hc := (HBX.out.below hb).cell (i := k) (CL.out k hk3)
          have hr := (RL.out k hk3).below hb
          have HB := Lib.hid hb
          clear hb
          generalize pick3 a c (c ++ b) k = m at hr
          generalize pick3 (Value.slice pa na ca) (.slice pc nc cc) (.slice p3 ncb c3) k = vm at hr hc
          obtain ⟨pm, cm, rfl⟩ := hr.shape
          have HM := Lib.hid hr
          have hO := of_any _ m wr hr
          generalize hnm : m.length = nm at *
          clear hr
          go_wp2_with fail
          refine hO.mono ?_
          rintro e w7 ⟨⟨vp, p, ep, rfl, hrp, _, hqp⟩, hb7⟩
          obtain ⟨pp, cp, rfl⟩ := hrp.shape
          have x2 := (BoxAt.new w7 #[.slice none 0 0] 24).free 0
          have HB8 := Lib.hid (show Below wL.heap.size wL (w7.alloc (.cells #[.slice pp p.length cp] 24)) from (below_step HB.out hb7).alloc (below_step HB.out hb7).size _)
          have XP := Lib.hid (BoxAt.new w7 #[.slice pp p.length cp] 24)
          have RP := Lib.hid (hrp.below ((Below.refl _ _).alloc (Nat.le_refl _) (.cells #[.slice pp p.length cp] 24)))
          have hO2 := refOf_any _ m (w7.alloc (.cells #[.slice pp p.length cp] 24)) ((HM.out.below hb7).below ((Below.refl _ _).alloc (Nat.le_refl _) _))
          have QP := Lib.hid hqp
          clear hrp hqp hb7 hO hc
          go_wp2_with fail
          clear x2
          generalize w7.alloc (.cells #[.slice pp p.length cp] 24) = w8 at *
          refine hO2.mono ?_
          rintro e w9 ⟨⟨vq, q, eq, rfl, hrq, _, hqq⟩, hb9⟩
          obtain ⟨rfl, rfl⟩ := QP.out.det hqq
          obtain ⟨pq, cq, rfl⟩ := hrq.shape
          have x2 := (BoxAt.new w9 #[.slice none 0 0] 24).free 0
          have HB10 := Lib.hid (show Below w8.heap.size w8 (w9.alloc (.cells #[.slice pq p.length cq] 24)) from hb9.alloc hb9.size _)
          have XQ := Lib.hid (BoxAt.new w9 #[.slice pq p.length cq] 24)
          have RQ := Lib.hid (hrq.below ((Below.refl _ _).alloc (Nat.le_refl _) (.cells #[.slice pq p.length cq] 24)))
          have z0 := (XP.out.below HB10.out).cell (i := 0) rfl
          have z1 := XQ.out.cell (i := 0) rfl
          have hS := refSameR_any _ _ _ _ _ (RP.out.below HB10.out) RQ.out
          clear hrq hqq hb9 hO2
          go_wp2_with fail
          generalize w9.alloc (.cells #[.slice pq p.length cq] 24) = w10 at *
          refine hS.mono ?_
          rintro e w11 ⟨hr, hb11⟩
          obtain rfl := hr.is_yes (by trivial)
          have HB12 := Lib.hid (below_step (below_step HB8.out HB10.out) hb11)
          clear hS hr hb11 x2 z0 z1
          go_wp2
          go_roundw
          case rel => exact ⟨k + 1, by omega, by simp, HB12.out⟩
          case measure => simp [intOf]; omega
        · obtain rfl : k = 3 := by omega
          have kb0 := hb
          clear hb HBX RL CL hk hk3
          go_wp2_with fail
          refine wp_region_noPanic ?_
          try simp only [List.append_eq, List.cons_append, List.nil_append]
          go_region_held3 (fun w' => w'.cell? ⟨W.heap.size, 0, none⟩ = some (.slice pa na ca) ∧ w'.cell? ⟨W.heap.size + 1, 0, none⟩ = some (.slice pb nb cb) ∧ w'.cell? ⟨w3.heap.size, 0, none⟩ = some (.slice pc nc cc) ∧ w'.cell? ⟨w3.heap.size + 1, 0, none⟩ = some (.slice pd nd cd) ∧ Below wL.heap.size wL w') (exact YS.out _ (by first | assumption | exact Below.drew (by assumption))) (first
            | (go_at_call 18; (with_reducible refine (P1.out _ (by first | assumption | exact Below.drew (by assumption)) _ _).mono ?_); rintro e w' ⟨rfl, hb⟩; have kb : Below wL.heap.size wL w' := below_step (by first | assumption | exact Below.drew (by assumption)) hb; clear hb)
            | (go_at_call 18; (with_reducible refine (P2.out _ (by first | assumption | exact Below.drew (by assumption)) _ _).mono ?_); rintro e w' ⟨rfl, hb⟩; have kb : Below wL.heap.size wL w' := below_step (by first | assumption | exact Below.drew (by assumption)) hb; clear hb)
            | (go_at_call 18; (with_reducible refine (P3.out _ (by first | assumption | exact Below.drew (by assumption)) _ _).mono ?_); rintro e w' ⟨rfl, hb⟩; have kb : Below wL.heap.size wL w' := below_step (by first | assumption | exact Below.drew (by assumption)) hb; clear hb)
            | (go_at_call 18; (with_reducible refine (P4.out _ (by first | assumption | exact Below.drew (by assumption)) _ _).mono ?_); rintro e w' ⟨rfl, hb⟩; have kb : Below wL.heap.size wL w' := below_step (by first | assumption | exact Below.drew (by assumption)) hb; clear hb)
            | (go_at_call 19; refine (mod_any _ 10 (by decide) _).mono ?_; rintro e w' ⟨rfl, rfl⟩)
            | (go_at_call 12; refine (awake_any _).mono ?_; rintro e w' ⟨rfl, hb⟩; have kb : Below wL.heap.size wL w' := below_step (by first | assumption | exact Below.drew (by assumption)) hb; clear hb))
          refine NoPanic.normal ?_
          go_wp2
          go_ret
          exact ⟨rfl, below_step BWL.out (by assumption)⟩
    · have gb : (8 : Int) < (b.length : Int) := by omega
      have ga : ¬ ((8 : Int) < (a.length : Int)) := by omega
      go_enter Try.func3, Try.ntmps3
      clear hA8 hB8 ma mb hN
      go_wp2_with (go_at_call 12; refine Calls.mono (awake_any _) ?_; rintro e w2 ⟨rfl, hb2⟩; have B2 := Lib.hid (below_step HT.out.bw hb2); clear hb2)
      go_ret
      exact ⟨rfl, B2.out⟩
  · have ga : (8 : Int) < (a.length : Int) := by omega
    go_enter Try.func3, Try.ntmps3
    clear hA8 ma mb hN
    go_wp2_with (go_at_call 12; refine Calls.mono (awake_any _) ?_; rintro e w2 ⟨rfl, hb2⟩; have B2 := Lib.hid (below_step HT.out.bw hb2); clear hb2)
    go_ret
    exact ⟨rfl, B2.out⟩
end Go.Proofs.Ytdpnkbbphfcngaa
