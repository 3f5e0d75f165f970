/- shape.joined, walked. -/
import Derived.Test.YtdpnkbbphfcngabHD
namespace Go.Proofs.Ytdpnkbbphfcngab
open Go.RowKit Go.Shelf

theorem bfs_done {l : List Rc} {f i : Nat} {s : List Bool × List Rc} (h : ¬ i < s.2.length) : bfs l f i s = s := by
  cases f with
  | zero => rfl
  | succ f => rw [bfs, if_neg h]

/-- What the loops keep. -/
structure JAt (w wr : World) (Bt gt : Nat) (vt u : Value) (s : List Bool × List Rc) : Prop where
  tk : OwnAt wr Bt 4 1 encT vt s.1
  qu : QAt wr w.heap.size u s.2
  sep : ∀ k, u.ownBlock = some k → k ≠ gt
  gr : w.grownBy wr vt.ownBlock

theorem JAt.below {w wr w1 : World} {Bt gt : Nat} {vt u : Value} {s : List Bool × List Rc} (h : JAt w wr Bt gt vt u s) (hb : Below wr.heap.size wr w1) : JAt w w1 Bt gt vt u s :=
  ⟨h.tk.kept hb, h.qu.but (gr_of_below hb) (fun k _ => by simp), h.sep, gr_trans h.gr (gr_weak (gr_of_below hb))⟩
theorem JAt.tcell {w wr : World} {Bt gt n cap : Nat} {u : Value} {s : List Bool × List Rc} (h : JAt w wr Bt gt (.slice (some ⟨gt, 0, none⟩) n cap) u s) (hn : s.1.length = n) {j : Nat} (hj : j < n) : wr.cell? ⟨gt, j, none⟩ = some (.bool s.1[j]!) ∧ wr.frozen? ⟨gt, j, none⟩ = false := by
  have h1 := h.tk.cell (fun _ => rfl) hn.symm (j := j) (by omega) (i := 0) rfl
  simp only [Nat.mul_one, Nat.add_zero] at h1
  subst hn
  exact ⟨h1, World.ownsRow.frozenAt h.tk j⟩
/-- One is taken. -/
theorem JAt.set {w wr : World} {Bt gt n cap : Nat} {u : Value} {s : List Bool × List Rc} (h : JAt w wr Bt gt (.slice (some ⟨gt, 0, none⟩) n cap) u s) (hn : s.1.length = n) (j : Nat) : JAt w (wr.setCell ⟨gt, j, none⟩ (.bool true)) Bt gt (.slice (some ⟨gt, 0, none⟩) n cap) u (s.1.set j true, s.2) := by
  subst hn
  obtain ⟨o1, o2⟩ := World.ownsRow.stored h.tk j (.bool true)
  refine ⟨?_, h.qu.but o2 (fun k hk e => h.sep k hk (by simpa using e.symm)), h.sep, gr_trans h.gr o2⟩
  unfold OwnAt
  rw [flat_encT, List.length_set, List.map_set, ← flat_encT]
  exact o1

set_option maxHeartbeats 4000000 in
set_option maxRecDepth 100000 in
theorem joined_any (v vt : Value) (l : List Rc) (t : List Bool) (first : Nat) (Bt : Nat) (w : World) (h : RectsAt w v l) (ht : OwnAt w Bt 4 1 encT vt t) (hsep : ∀ k, v.ownBlock = some k → k < Bt) (htl : t.length = l.length) (hf : first < l.length) (hl : l.length ≤ 1000) (hsm : ∀ r ∈ l, Sm r) :
    Calls Try.prog 36 #[v, .int .i64 first, vt] w fun e w' => ∃ v', e = .returned v' ∧ RectsAt w' v' (joinedL l first t).2 ∧ (∀ k, v'.ownBlock = some k → k < w.heap.size → v.ownBlock = some k) ∧ OwnAt w' Bt 4 1 encT vt (joinedL l first t).1 ∧ w.grownBy w' vt.ownBlock := by
  obtain ⟨gt, capt, rfl, hBt, hgt, hct⟩ := ht.form (by omega)
  rw [htl] at ht hct ⊢
  have HR := Lib.hid h
  obtain ⟨p, cap, rfl, hm, hcp, hcell⟩ := h
  obtain ⟨b, off, rfl, hlt, _⟩ := hcell first hf
  have hbt : b < Bt := hsep b rfl
  have HT := Lib.hid ht
  have HTL := Lib.hid htl
  have HSm := Lib.hid hsm
  have HI := Lib.hid (JOk.init htl hf)
  have HQ := Lib.hid (show QAt w w.heap.size (.slice (some ⟨b, off + first * 4, none⟩) 1 1) [l[first]!] from ⟨⟨_, 1, rfl, (by show 1 ≤ maxLen; decide), Nat.le_refl _, fun j hj => by
    have hj0 : j = 0 := by simp at hj; omega
    subst hj0
    obtain ⟨b', off', e, hlt', hc⟩ := hcell first hf
    cases e
    exact ⟨b, off + first * 4, rfl, hlt', by simpa using hc⟩⟩, .inl ⟨rfl, b, off + first * 4, rfl⟩⟩)
  obtain ⟨n, hn⟩ : ∃ n, n = l.length := ⟨_, rfl⟩
  rw [← hn] at HT HR hcp hm hct hf hl ⊢
  have N := Lib.hid hn
  have hn' : (n : Int) ≤ 1000 := by omega
  have hf' : (first : Int) < (n : Int) := by omega
  have hcp' : (n : Int) ≤ (cap : Int) := by omega
  have hfin := Lib.hid (show joinedL l first t = bfs l (n + 1) 0 (t.set first true, [l[first]!]) by rw [hn]; rfl)
  obtain ⟨tc, tf⟩ := JAt.tcell (w := w) (u := .slice none 0 0) (s := (t, [])) ⟨HT.out, ⟨RectsAt.nil _, .inr (OwnAt.nil ..)⟩, (fun k hk => by simp [Value.ownBlock] at hk), World.grownBy.refl _ _⟩ (by rw [hn]; exact htl) hf
  have HJ0 := Lib.hid (JAt.set (show JAt w w Bt gt (.slice (some ⟨gt, 0, none⟩) n capt) (.slice (some ⟨b, off + first * 4, none⟩) 1 1) (t, [l[first]!]) from ⟨HT.out, HQ.out, (fun k hk => by simp [Value.ownBlock] at hk; omega), World.grownBy.refl _ _⟩) (by rw [hn]; exact htl) first)
  clear hn htl hsm hcell ht HQ hsep
  go_enter Try.func36, Try.ntmps36
  go_wp2
  go_loopw [7, 8] (fun u i wr => ∃ (k : Nat) (s : List Bool × List Rc), k ≤ n ∧ i = .int .i64 k ∧ bfs l (n + 1 - k) k s = bfs l (n + 1) 0 (t.set first true, [l[first]!]) ∧ JOk l s ∧ JAt w wr Bt gt (.slice (some ⟨gt, 0, none⟩) n capt) u s ∧ (∀ q, u.ownBlock = some q → q < w.heap.size → q = b)) (fun _ i _ => n + 1 - (intOf i).toNat)
  case atStart => exact ⟨0, _, Nat.zero_le _, rfl, rfl, HI.out, HJ0.out, fun q hq _ => by simp [Value.ownBlock] at hq; omega⟩
  case round =>
    obtain ⟨k, s, hk, rfl, hbfs, hok, hst, hown⟩ := hrel
    have hqn := hok.le
    rw [← N.out] at hqn
    obtain ⟨pq, cq, rfl⟩ := hst.qu.1.shape
    by_cases hkq : k < s.2.length
    · have HB := Lib.hid (show bfs l (n + 1 - (k + 1)) (k + 1) (rowJ l s.2[k]! s n) = bfs l (n + 1) 0 (t.set first true, [l[first]!]) by
        rw [← hbfs, show n + 1 - k = (n + 1 - (k + 1)) + 1 by omega]
        conv => rhs; rw [bfs, if_pos hkq]
        rw [N.out])
      have HP := Lib.hid (fun j => rowJ_get (l := l) (p := s.2[k]!) (k := j) hkq)
      have HOk := Lib.hid (fun j (hj : j ≤ n) => hok.row s.2[k]! j (by rw [← N.out]; exact hj))
      have HSp := Lib.hid (HSm.out _ (hok.mem s.2[k]! (by rw [getElem!_pos _ k hkq]; exact List.getElem_mem _)))
      have hkq' : (k : Int) < (s.2.length : Int) := by omega
      have HS := Lib.hid hst
      have HOw := Lib.hid hown
      clear hbfs hok hst hown
      generalize hpp : s.2[k]! = pp at *
      go_wp2
      go_loopw [7, 29] (fun u i wr => ∃ j : Nat, j ≤ n ∧ i = .int .i64 j ∧ JAt w wr Bt gt (.slice (some ⟨gt, 0, none⟩) n capt) u (rowJ l pp s j) ∧ (∀ q, u.ownBlock = some q → q < w.heap.size → q = b)) (fun _ i _ => n - (intOf i).toNat)
      case atStart => exact ⟨0, Nat.zero_le _, rfl, HS.out, HOw.out⟩
      case round =>
        obtain ⟨j, hj, rfl, hst, hown⟩ := hrel
        obtain ⟨hget, hkl⟩ := HP.out j
        have hok := HOk.out j hj
        have hsucc := rowJ_succ l pp s j
        by_cases hjn : j < n
        · have hjl : j < l.length := by rw [← N.out]; exact hjn
          have HOk2 := Lib.hid (HOk.out (j + 1) (by omega))
          generalize hsj : rowJ l pp s j = sj at *
          have hR := HR.out.but hst.gr (fun q hq e => by
            have h1 : b = q := by simpa [Value.ownBlock] using hq
            have h2 : gt = q := by simpa [Value.ownBlock] using e
            omega)
          obtain ⟨p0, cap0, e0, _, _, hcell⟩ := hR
          simp only [Value.slice.injEq] at e0
          obtain ⟨e0, e0b, e0c⟩ := e0
          subst e0
          subst e0c
          clear e0b
          obtain ⟨b1, o1, e1, hlt1, hrc⟩ := hcell j (by exact hjl)
          cases e1
          obtain ⟨c0, c1, c2, c3⟩ := hrc
          obtain ⟨pu, cu, e2, hm2, hcu, hqc⟩ := hst.qu.1
          obtain ⟨bq, oq, e3, hltq, hq⟩ := hqc k hkl
          subst e3
          rw [hget] at hq
          obtain ⟨q0, q1, q2, q3⟩ := hq
          obtain ⟨tcj, tfj⟩ := hst.tcell (by rw [hok.len]; exact N.out.symm) hjn
          have hjn' : (j : Int) < (n : Int) := by omega
          have hkl' : (k : Int) < (sj.2.length : Int) := by omega
          have hqle : sj.2.length ≤ n := by rw [N.out]; exact hok.le
          have HSt := Lib.hid hst
          have HSr := Lib.hid (HSm.out l[j]! (by rw [getElem!_pos l j hjl]; exact List.getElem_mem _))
          have hwr := hst.gr.size
          have hgt2 : gt < wr.heap.size := by omega
          have n1 : b ≠ wr.heap.size := by omega
          have n2 : bq ≠ wr.heap.size := by omega
          have n3 : gt ≠ wr.heap.size := by omega
          have HOwn := Lib.hid hown
          have HOkj := Lib.hid hok
          unfold stepJ at hsucc
          have HSuc := Lib.hid hsucc
          subst e2
          clear hcell hqc hst hown hsucc hget hok
          generalize l[j]! = r at *
          generalize htj : sj.1[j]! = tj at *
          cases tj with
          | true =>
            have HS3 := Lib.hid (show rowJ l pp s (j + 1) = sj by rw [HSuc.out, if_neg (by intro hh; cases hh.1)])
            go_wp2
            go_region
            all_goals go_wp2
            refine ⟨⟨j + 1, by omega, by simp, by rw [HS3.out]; exact HSt.out.below ((Below.refl _ _).alloc (Nat.le_refl _) _).drew, HOwn.out⟩, ?_⟩
            simp [intOf]; omega
          | false =>
            have W0 := Lib.hid (show Below wr.heap.size wr (wr.alloc (.cells #[.int .i64 r.l, .int .i64 r.b, .int .i64 r.r, .int .i64 r.h] 49)) from (Below.refl _ _).alloc (Nat.le_refl _) _)
            have Q0 := Lib.hid (cell_keep (W0.out) q0)
            have Q1 := Lib.hid (cell_keep (W0.out) q1)
            have Q2 := Lib.hid (cell_keep (W0.out) q2)
            have Q3 := Lib.hid (cell_keep (W0.out) q3)
            have TCJ := Lib.hid (cell_keep (W0.out) tcj)
            have BX := Lib.hid (BoxAt.new wr #[.int .i64 r.l, .int .i64 r.b, .int .i64 r.r, .int .i64 r.h] 49)
            have KS := Lib.hid (fun (w' : World) (h : Below (wr.alloc (.cells #[.int .i64 r.l, .int .i64 r.b, .int .i64 r.r, .int .i64 r.h] 49)).heap.size (wr.alloc (.cells #[.int .i64 r.l, .int .i64 r.b, .int .i64 r.r, .int .i64 r.h] 49)) w') => (⟨cell_keep h TCJ.out, cell_keep h Q0.out, cell_keep h Q1.out, cell_keep h Q2.out, cell_keep h Q3.out, (BX.out.below h).cell (i := 0) rfl, (BX.out.below h).cell (i := 1) rfl, (BX.out.below h).cell (i := 2) rfl, (BX.out.below h).cell (i := 3) rfl, h⟩ : w'.cell? ⟨gt, j, none⟩ = some (.bool false) ∧ w'.cell? ⟨bq, oq + k * 4, none⟩ = some (.int .i64 pp.l) ∧ w'.cell? ⟨bq, oq + k * 4 + 1, none⟩ = some (.int .i64 pp.b) ∧ w'.cell? ⟨bq, oq + k * 4 + 2, none⟩ = some (.int .i64 pp.r) ∧ w'.cell? ⟨bq, oq + k * 4 + 3, none⟩ = some (.int .i64 pp.h) ∧ w'.cell? ⟨wr.heap.size, 0, none⟩ = some (.int .i64 r.l) ∧ w'.cell? ⟨wr.heap.size, 1, none⟩ = some (.int .i64 r.b) ∧ w'.cell? ⟨wr.heap.size, 2, none⟩ = some (.int .i64 r.r) ∧ w'.cell? ⟨wr.heap.size, 3, none⟩ = some (.int .i64 r.h) ∧ Below (wr.alloc (.cells #[.int .i64 r.l, .int .i64 r.b, .int .i64 r.r, .int .i64 r.h] 49)).heap.size (wr.alloc (.cells #[.int .i64 r.l, .int .i64 r.b, .int .i64 r.r, .int .i64 r.h] 49)) w'))
            have HBt := Lib.hid (fun (w' : World) => btwS_any pp r w' HSp.out HSr.out)
            generalize hbw : btw pp r = bw at *
            go_wp2
            refine wp_region_noPanic ?_
            go_region_held3 (fun w' => w'.cell? ⟨gt, j, none⟩ = some (.bool false) ∧ w'.cell? ⟨bq, oq + k * 4, none⟩ = some (.int .i64 pp.l) ∧ w'.cell? ⟨bq, oq + k * 4 + 1, none⟩ = some (.int .i64 pp.b) ∧ w'.cell? ⟨bq, oq + k * 4 + 2, none⟩ = some (.int .i64 pp.r) ∧ w'.cell? ⟨bq, oq + k * 4 + 3, none⟩ = some (.int .i64 pp.h) ∧ w'.cell? ⟨wr.heap.size, 0, none⟩ = some (.int .i64 r.l) ∧ w'.cell? ⟨wr.heap.size, 1, none⟩ = some (.int .i64 r.b) ∧ w'.cell? ⟨wr.heap.size, 2, none⟩ = some (.int .i64 r.r) ∧ w'.cell? ⟨wr.heap.size, 3, none⟩ = some (.int .i64 r.h) ∧ Below (wr.alloc (.cells #[.int .i64 r.l, .int .i64 r.b, .int .i64 r.r, .int .i64 r.h] 49)).heap.size (wr.alloc (.cells #[.int .i64 r.l, .int .i64 r.b, .int .i64 r.r, .int .i64 r.h] 49)) w') (exact KS.out _ (by first | assumption | exact Below.drew (by assumption) | exact Below.drew (Below.refl _ _))) (first
              | (go_at_call 38; (with_reducible refine Calls.mono (HBt.out _) ?_); rintro e w1 ⟨rfl, hb1⟩; have kb1 : Below (wr.alloc (.cells #[.int .i64 r.l, .int .i64 r.b, .int .i64 r.r, .int .i64 r.h] 49)).heap.size (wr.alloc (.cells #[.int .i64 r.l, .int .i64 r.b, .int .i64 r.r, .int .i64 r.h] 49)) w1 := below_step (Below.drew (Below.refl _ _)) hb1; clear hb1)
              | fail)
            refine NoPanic.normal ?_
            obtain ⟨y0, _, _, _, _, y1, y2, y3, y4, _⟩ := KS.out _ kb1
            have hJ1 := HSt.out.below (below_new kb1)
            obtain ⟨_, y5⟩ := hJ1.tcell (by rw [HOkj.out.len]; exact N.out.symm) hjn
            have hw1 := (below_new kb1).size
            have n5 : gt < w1.heap.size := by omega
            have n6 : gt ≠ w1.heap.size := by omega
            have HJ1 := Lib.hid hJ1
            clear hJ1 kb1 KS Q0 Q1 Q2 Q3 TCJ BX W0 HBt
            by_cases hpos : 0 < bw
            · have HS3 := Lib.hid (show rowJ l pp s (j + 1) = (sj.1.set j true, sj.2 ++ [r]) by rw [HSuc.out, if_pos ⟨trivial, hpos⟩])
              have HJ2 := Lib.hid (HJ1.out.set (by rw [HOkj.out.len]; exact N.out.symm) j)
              have hbx := BoxAt.new (w1.setCell ⟨gt, j, none⟩ (.bool true)) #[.int .i64 r.l, .int .i64 r.b, .int .i64 r.r, .int .i64 r.h] 49
              rw [World.size_setCell] at hbx
              have HBX := Lib.hid hbx
              have HQ2 := Lib.hid (HJ2.out.qu.but (World.grownBy_alloc _ (.cells #[.int .i64 r.l, .int .i64 r.b, .int .i64 r.r, .int .i64 r.h] 49) none) (fun q _ => by simp))
              have hB6 : w.heap.size ≤ ((w1.setCell ⟨gt, j, none⟩ (.bool true)).alloc (.cells #[.int .i64 r.l, .int .i64 r.b, .int .i64 r.r, .int .i64 r.h] 49)).heap.size := by
                rw [World.size_alloc, World.size_setCell]; omega
              clear hbx
              go_wp2_with (first | (at_builtin; refine wpList_append_q rfl _ _ rfl w.heap.size _ sj.2 rfl HQ2.out w1.heap.size 1 r rfl HBX.out (by omega) hB6 ?_))
              intro v' w3 ho3 hv3 hg3 row hgw hrow
              have hJ3 : JAt w w3 Bt gt (.slice (some ⟨gt, 0, none⟩) n capt) v' (rowJ l pp s (j + 1)) := by
                rw [HS3.out]
                refine ⟨?_, ⟨ho3.rects, .inr ho3⟩, fun q hq => by have := hv3 q hq; omega, hg3 w _ rfl (gr_alloc HJ2.out.gr _)⟩
                refine World.ownsRow.kept (HJ2.out.tk.alloc _) hgw (.inr fun e => ?_)
                have h1 : row = some gt := by rw [← e]; rfl
                exact HJ2.out.sep gt (hrow gt h1) rfl
              obtain ⟨p3, c3', rfl⟩ := ho3.shape
              have HJ3 := Lib.hid hJ3
              have HV3 := Lib.hid hv3
              clear ho3 hv3 hg3 hgw hrow hJ3
              go_wp2
              refine ⟨⟨j + 1, by omega, by simp, HJ3.out, fun q hq hlt => absurd (HV3.out q hq) (by omega)⟩, ?_⟩
              simp [intOf]; omega
            · have HS3 := Lib.hid (show rowJ l pp s (j + 1) = sj by rw [HSuc.out, if_neg (fun hh => hpos hh.2)])
              go_wp2
              go_roundw
              case rel => exact ⟨j + 1, by omega, by simp, by rw [HS3.out]; exact HJ1.out, HOwn.out⟩
              case measure => simp [intOf]; omega
        · obtain rfl : j = n := by omega
          have HS := Lib.hid hst
          have HO := Lib.hid hown
          have HOkk := Lib.hid hok
          clear hst hown hget hkl hsucc hok
          go_wp2
          go_roundw
          case rel => exact ⟨k + 1, _, by omega, by simp, HB.out, HOkk.out, HS.out, HO.out⟩
          case measure => simp [intOf]; omega
    · rw [bfs_done hkq] at hbfs
      have HE := Lib.hid (show joinedL l first t = s by rw [hfin.out, ← hbfs])
      have HS := Lib.hid hst
      have HO := Lib.hid hown
      have hkq' : ¬ (k : Int) < (s.2.length : Int) := by omega
      clear hbfs hok hst hown
      go_wp2
      go_ret
      refine ⟨_, rfl, ?_, ?_, ?_, HS.out.gr⟩
      · rw [HE.out]; exact HS.out.qu.1
      · intro q hq hql
        rw [HO.out q hq hql]; rfl
      · rw [HE.out]; exact HS.out.tk
end Go.Proofs.Ytdpnkbbphfcngab
