/- spansOf: the pieces of a row, as an iterator hands them out. -/
import Derived.Test.YtkpmgdhaollheaaIF
import Derived.Test.YtkpmgdhaollheaaIL
import Derived.Test.YtkpmgdhaollheaaGMask
import Derived.Test.YtkpmgdhaollheaaGF
namespace Go.Proofs.Ytkpmgdhaollheaa
open Go.RowKit Go.Shelf

attribute [local go_sem] Oper.semAt_some

/-- The types of what the iterators keep for themselves. -/
def UU : List TypeId := [NC, 3, 124, 107, 106, 83]

def EdOk (n : Nat) (E : List Ed) : Prop := ∀ e ∈ E, (0 ≤ e.list ∧ e.list < (n : Int)) ∧ (e.more = 1 ∨ e.more = -1)

theorem made_zero (n : Nat) : (madeCells (Value.int .i64 0).cells (n * 1)).toList = (List.replicate n (0 : Int)).flatMap encI := by
  rw [flat_encI, List.map_replicate]
  simp only [madeCells, Value.cells]
  apply List.ext_getElem
  · simp
  · intro i h1 h2
    simp [Nat.mod_one]

/-- A list of zeros is made. -/
theorem made_ints {P : Program} {ops : Array Oper} {rest : List Oper} {o : Oper} {a : Act} {Q : Exit → Act → World → Prop} (w : World) (hg : o.guard = none) {l c : Operand} {t e : TypeId} (hop : o.op = Op.makeSlice t l c)
    {i : TypeInfo} (h1 : P.underlying t = some (.slice e)) (h2 : P.info? e = some i) (h3 : i.zero = some (.int .i64 0)) (h4 : i.size = 1) (h5 : i.bytes = 8) (n : Nat) (hl : a.eval l = .int .i64 n) (hc : a.eval c = .int .i64 n) (hn : n ≤ 1000)
    (hK : ∀ w', OwnAt w' w.heap.size e 1 encI (.slice (some ⟨w.heap.size, 0, none⟩) n n) (List.replicate n 0) → w.grownBy w' none → wpListIn Fence.wide 0 P ops Q rest (a.put o.dst (.slice (some ⟨w.heap.size, 0, none⟩) n n)) w') :
    wpListIn Fence.wide 0 P ops Q (o :: rest) a w := by
  refine wpListIn_plain hg fun K hK' => ?_
  obtain ⟨w', hrun, r1, r2⟩ := run_make_full (P := P) w w.heap.size t e i _ 1 h1 h2 h3 h4 .i64 .i64 n (by rw [h5]; omega) (by unfold maxLen; omega) (Nat.le_refl _)
  rw [made_zero] at r1
  unfold Oper.wpIn
  refine ⟨by simp [Oper.about, hop], ?_⟩
  rw [Oper.semAt_plain Fence.wide _ _ (by rw [hop]; intro c hc'; cases hc')]
  simp [execOp, hop, hl, hc, hrun, Result.andThen]
  exact hK' _ _ (hK w' (by unfold OwnAt; rw [List.length_replicate]; exact r1) r2)

def psAt (n : Nat) (R : List Ed) (k : Nat) : PsN := psSt n (R.take k)
theorem psAt_succ {n : Nat} {R : List Ed} {k : Nat} (h : k < R.length) : psAt n R (k + 1) = psStep (psAt n R k) R[k]! := by
  unfold psAt psSt
  rw [List.take_succ_eq_append_getElem h, List.foldl_append, getElem!_pos R k h]
  rfl
theorem psAt_ok {n : Nat} {R : List Ed} (hE : EdOk n R) : ∀ k, k ≤ R.length → (psAt n R k).c.length = n ∧ (∀ j, j < n → -(k : Int) ≤ (psAt n R k).c[j]! ∧ (psAt n R k).c[j]! ≤ k) ∧ (psAt n R k).set = maskC (psAt n R k).c
  | 0, _ => by
    have e : (psAt n R 0) = ⟨[], List.replicate n 0, 0, 0⟩ := rfl
    rw [e]
    refine ⟨by simp, fun j hj => ?_, (mask_zero fun v hv => (List.mem_replicate.1 hv).2).symm⟩
    show _ ≤ (List.replicate n (0 : Int))[j]! ∧ _
    rw [getElem!_pos _ _ (by simpa using hj)]
    simp
  | k + 1, hk => by
    obtain ⟨i1, i2, i3⟩ := psAt_ok hE k (by omega)
    rw [psAt_succ (by omega)]
    generalize psAt n R k = s at *
    have hm := hE R[k]! (by rw [getElem!_pos R k (by omega)]; exact List.getElem_mem _)
    generalize R[k]! = e at *
    have hc : (psStep s e).c = bump s.c e.list.toNat e.more ∧ (psStep s e).set = maskC (bump s.c e.list.toNat e.more) := by
      unfold psStep
      split
      · rename_i h; exact ⟨rfl, h.symm⟩
      · exact ⟨rfl, rfl⟩
    rw [hc.1, hc.2]
    refine ⟨by rw [bump_len]; exact i1, fun j hj => ?_, rfl⟩
    rw [bump_get (by rw [i1]; exact hj)]
    have h1 := i2 j hj
    split
    · rename_i hj2
      rw [← hj2]
      omega
    · omega
theorem psF_prefix : ∀ (Q : List Ed) (s : PsN), s.out <+: (Q.foldl psStep s).out
  | [], s => List.prefix_refl _
  | e :: Q, s => by
    refine List.IsPrefix.trans ?_ (psF_prefix Q (psStep s e))
    unfold psStep
    split
    · exact List.prefix_refl _
    · dsimp only
      split
      · exact List.prefix_append _ _
      · exact List.prefix_refl _
theorem psAt_prefix (n : Nat) (R : List Ed) (k : Nat) : (psAt n R k).out <+: piecesRow n R := by
  have := psF_prefix (R.drop k) (psAt n R k)
  unfold psAt psSt at this
  rw [← List.foldl_append, List.take_append_drop] at this
  exact this
theorem psAt_len (n : Nat) (R : List Ed) : ∀ k, k ≤ R.length → (psAt n R k).out.length ≤ k
  | 0, _ => by simp [psAt, psSt]
  | k + 1, hk => by
    have ih := psAt_len n R k (by omega)
    rw [psAt_succ (by omega)]
    unfold psStep
    split
    · show (psAt n R k).out.length ≤ _; omega
    · dsimp only
      split
      · rw [List.length_append, List.length_singleton]; omega
      · omega

def encSp (x : Int × Sp) : Array Value := #[.int .i64 x.1, .agg #[.int .i64 x.2.1, .int .i64 x.2.2]]

/-- The world behind the count of an edge. -/
def cntW (wr : World) (gc jj : Nat) (z : Int) (r : Ed) : World := ((wr.setCell ⟨gc, jj, none⟩ (.int .i64 z)).alloc (.cells #[.int .i64 r.x, .int .i64 r.lo, .int .i64 r.hi, .int .i64 jj, .int .i64 r.more] 124)).drew

theorem cnt_ok {wr : World} {B B0 n jj m cap : Nat} {p : Option Addr} {c : List Int} {R : List Ed} {r : Ed} (hlt : B0 < wr.heap.size) (hck : OwnAt wr B0 3 1 encI (.slice (some ⟨B0, 0, none⟩) n n) c) (hcl : c.length = n)
    (hR : OwnAt wr B 124 5 encE (.slice p m cap) R) (hRB : ∀ g, (Value.slice p m cap).ownBlock = some g → g < B0) (z : Int) :
    OwnAt (cntW wr B0 jj z r) B0 3 1 encI (.slice (some ⟨B0, 0, none⟩) n n) (c.set jj z) ∧ OwnAt (cntW wr B0 jj z r) B 124 5 encE (.slice p m cap) R ∧
    BoxAt (cntW wr B0 jj z r) wr.heap.size #[.int .i64 r.x, .int .i64 r.lo, .int .i64 r.hi, .int .i64 jj, .int .i64 r.more] 124 ∧ Turn UU B0 wr (cntW wr B0 jj z r) := by
  have h4 := hck
  unfold OwnAt at h4
  rw [hcl] at h4
  obtain ⟨s1, s2⟩ := World.ownsRow.stored h4 jj (.int .i64 z)
  have hsz : (wr.setCell ⟨B0, jj, none⟩ (.int .i64 z)).heap.size = wr.heap.size := by simp
  have t1 : Turn UU B0 wr (wr.setCell ⟨B0, jj, none⟩ (.int .i64 z)) := Turn.of_row h4 s2 (Nat.le_refl _) (by decide)
  have r1 : OwnAt (wr.setCell ⟨B0, jj, none⟩ (.int .i64 z)) B 124 5 encE (.slice p m cap) R := by
    refine World.ownsRow.kept hR s2 ?_
    cases hv : (Value.slice p m cap).ownBlock with
    | none => exact .inl rfl
    | some g => exact .inr fun e => by have := hRB g hv; cases e; omega
  have c1 : OwnAt (wr.setCell ⟨B0, jj, none⟩ (.int .i64 z)) B0 3 1 encI (.slice (some ⟨B0, 0, none⟩) n n) (c.set jj z) := by
    unfold OwnAt
    rw [flat_encI, List.length_set, hcl, List.map_set, ← flat_encI]
    exact s1
  unfold cntW
  generalize wr.setCell ⟨B0, jj, none⟩ (.int .i64 z) = w1 at *
  refine ⟨c1.alloc _, r1.alloc _, ?_, t1.trans ((Turn.of_below (below_one w1 _)).trans (Turn.drewN _ 1))⟩
  have := BoxAt.new w1 #[.int .i64 r.x, .int .i64 r.lo, .int .i64 r.hi, .int .i64 jj, .int .i64 r.more] 124
  rw [hsz] at this
  exact this

set_option maxHeartbeats 8000000 in
set_option maxRecDepth 100000 in
theorem spans_stops (bl br : Nat) (p : Option Addr) (cap m : Nat) (R : List Ed) (n B : Nat) (w : World) (hbl : BoxAt w bl #[.int .i64 n] 3) (hbr : BoxAt w br #[.slice p m cap] 107)
    (hR : OwnAt w B 124 5 encE (.slice p m cap) R) (hRm : R.length = m) (hE : EdOk n R) (hn62 : n ≤ 62) (hlen : m ≤ 240000) :
    SeqX Try.prog 105 #[.pointer (some ⟨bl, 0, none⟩), .pointer (some ⟨br, 0, none⟩)] UU encSp (fun xs => xs = piecesRow n R) (fun pre => pre <+: piecesRow n R) w := by
  intro l J Jx W hW hJ hJx hY h0
  obtain ⟨i1, hi, hz0, hz1, hz2⟩ := info_parts info_int
  have b0 : W.cell? ⟨bl, 0, none⟩ = some (.int .i64 n) := (hbl.below hW).cell (i := 0) rfl
  have b1 : W.cell? ⟨br, 0, none⟩ = some (.slice p m cap) := (hbr.below hW).cell (i := 0) rfl
  have HR := Lib.hid (OwnAt.kept hR hW)
  have HRm := Lib.hid hRm
  have HEd := Lib.hid hE
  have HY := Lib.hid hY
  have HJ := Lib.hid hJ
  have H0 := Lib.hid h0
  have HOk := Lib.hid (psAt_ok hE)
  have HRB := Lib.hid (fun g (e : (Value.slice p m cap).ownBlock = some g) => Nat.lt_of_lt_of_le (World.ownsRow.lt hR g e).2 hW.size)
  have hm' : (m : Int) ≤ 240000 := by omega
  have hn' : (n : Int) ≤ 62 := by omega
  clear hbl hbr hR hRm hE hY hJ hJx h0 hW
  refine callsIn_of_wp Try.func105 rfl trivial ?_ rfl
  simp only [Try.ntmps105, List.size_toArray, List.length_cons, List.length_nil, Nat.reduceAdd, Nat.reduceSub, Array.replicate_succ, Array.replicate_zero, List.push_toArray, List.append_toArray, List.nil_append, List.cons_append]
  gi_wp2_with (gi_at_make; refine made_ints _ rfl rfl Try.underlying22 hi hz0 hz1 hz2 n rfl rfl (by omega) ?_; intro w1 hc1 hg1; have b2 := cell_keep (below_of_gr hg1) b1)
  have hT1 : Turn UU W.heap.size W w1 := Turn.of_below (below_of_gr hg1)
  have HC1 := Lib.hid hc1
  have HJ1 := Lib.hid (HJ.out _ _ _ H0.out hT1)
  have HR1 := Lib.hid (OwnAt.kept HR.out (below_of_gr hg1))
  have hlt1 : W.heap.size < w1.heap.size := (World.ownsRow.lt hc1 W.heap.size rfl).2
  clear hc1 hT1 hg1
  gi_wp2
  gi_loopw [5, 6, 14] (fun ux us ui wr => ∃ k : Nat, k ≤ m ∧ ui = .int .i64 k ∧ ux = .int .i64 (psAt n R k).x ∧ us = .int .i64 (psAt n R k).set ∧ J (psAt n R k).out wr ∧ OwnAt wr W.heap.size 3 1 encI (.slice (some ⟨W.heap.size, 0, none⟩) n n) (psAt n R k).c ∧ OwnAt wr B 124 5 encE (.slice p m cap) R ∧ W.heap.size < wr.heap.size) (fun _ _ ui _ => m - (intOf ui).toNat)
  case atStart => exact ⟨0, Nat.zero_le _, rfl, rfl, rfl, HJ1.out, HC1.out, HR1.out, hlt1⟩
  case round =>
    obtain ⟨k, hk, rfl, rfl, rfl, hJk, hck, hRk, hwr⟩ := hrel
    by_cases hkm : k < m
    · have hkE : k < R.length := by rw [HRm.out]; exact hkm
      obtain ⟨g1, cap', e1, _, hg1, _⟩ := hRk.form (by omega)
      rw [HRm.out] at e1
      cases e1
      have d0 := hRk.cell encE_len HRm.out.symm hkE (i := 0) rfl
      have d1 := hRk.cell encE_len HRm.out.symm hkE (i := 1) rfl
      have d2 := hRk.cell encE_len HRm.out.symm hkE (i := 2) rfl
      have d3 := hRk.cell encE_len HRm.out.symm hkE (i := 3) rfl
      have d4 := hRk.cell encE_len HRm.out.symm hkE (i := 4) rfl
      simp only [Nat.add_zero] at d0
      have hkm' : (k : Int) < (m : Int) := by omega
      have hk0 : (0 : Int) ≤ (k : Int) := by omega
      obtain ⟨o1, o2, o3⟩ := HOk.out k (by omega)
      have hmem := HEd.out R[k]! (by rw [getElem!_pos R k hkE]; exact List.getElem_mem _)
      have hsucc := psAt_succ (n := n) hkE
      have hpre := psAt_prefix n R (k + 1)
      have hgB := HRB.out g1 rfl
      generalize R[k]! = r at *
      generalize psAt n R k = s at *
      obtain ⟨⟨m1, m2⟩, m3⟩ := hmem
      obtain ⟨jj, hjj⟩ : ∃ jj : Nat, r.list = jj := ⟨r.list.toNat, by omega⟩
      have hjn : jj < n := by omega
      have hjn' : (jj : Int) < (n : Int) := by omega
      have hj0 : (0 : Int) ≤ (jj : Int) := by omega
      have hbj := o2 jj hjn
      rw [hjj] at d3
      have cv : wr.cell? ⟨W.heap.size, jj, none⟩ = some (.int .i64 s.c[jj]!) := by
        have := hck.cell (fun _ => rfl) o1.symm (j := jj) (by omega) (i := 0) rfl
        simpa using this
      have cf : wr.frozen? ⟨W.heap.size, jj, none⟩ = false := World.ownsRow.frozenAt (by have := hck; unfold OwnAt at this; rw [o1] at this; exact this) jj
      have n2 : W.heap.size ≠ wr.heap.size := by omega
      have n4 : g1 ≠ wr.heap.size := by omega
      have n5 : g1 ≠ W.heap.size := by omega
      have hbump : bump s.c r.list.toNat r.more = s.c.set jj (s.c[jj]! + r.more) := by rw [hjj]; rfl
      have hF := cnt_ok (r := r) (jj := jj) hwr hck o1 hRk (fun g e => HRB.out g e) (s.c[jj]! + r.more)
      have MC := Lib.hid (mask_clear (c := s.c) (j := jj) (by omega) (by omega))
      have MS := Lib.hid (fun v hv => mask_set (c := s.c) (j := jj) (v := v) (by omega) (by omega) hv)
      have MK := Lib.hid (fun v hv => mask_keep (c := s.c) (j := jj) (v := v) hv)
      have hpb := two62 (show jj < 62 by omega)
      have hw64 : wrap64 ((2 : Int) ^ jj) = ((2 ^ jj : Nat) : Int) := by
        rw [show ((2 : Int) ^ jj) = ((2 ^ jj : Nat) : Int) by simp]
        generalize 2 ^ jj = q at hpb
        exact wrap_in (by omega) (by omega)
      generalize hcj : s.c[jj]! = cj at *
      obtain ⟨nx, hnx⟩ : ∃ nx, nx = maskC (s.c.set jj (cj + r.more)) := ⟨_, rfl⟩
      have HP := Lib.hid (show 0 < cj + r.more → bits .or .i64 (bits .andNot .i64 s.set (wrap64 (2 ^ jj))) (wrap64 (2 ^ jj)) = nx from fun h => by rw [hw64, o3, MC.out, MS.out _ h, hnx])
      have HN := Lib.hid (show ¬ 0 < cj + r.more → bits .andNot .i64 s.set (wrap64 (2 ^ jj)) = nx from fun h => by rw [hw64, o3, MC.out, MK.out _ h, hnx])
      have hst : psAt n R (k + 1) = if nx = s.set then ⟨s.out, s.c.set jj (cj + r.more), s.x, s.set⟩ else ⟨if s.x < r.x ∧ s.set ≠ 0 then s.out ++ [(s.set, (s.x, r.x))] else s.out, s.c.set jj (cj + r.more), r.x, nx⟩ := by
        rw [hsucc]
        unfold psStep
        rw [hbump, ← hnx]
      obtain ⟨w2, hw2⟩ : ∃ w2, w2 = cntW wr W.heap.size jj (cj + r.more) r := ⟨_, rfl⟩
      rw [← hw2] at hF
      obtain ⟨hc2, hR2, hbx2, ht2⟩ := hF
      have q0 := hbx2.cell (i := 0) rfl
      have q3 := hbx2.cell (i := 3) rfl
      have cv2 : w2.cell? ⟨W.heap.size, jj, none⟩ = some (.int .i64 (cj + r.more)) := by
        have := hc2.cell (fun _ => rfl) (by rw [List.length_set]; exact o1.symm) (j := jj) (by rw [List.length_set]; omega) (i := 0) rfl
        rw [getElem!_pos _ _ (by rw [List.length_set]; omega)] at this
        simpa using this
      have HJ2 := Lib.hid (HJ.out _ _ _ hJk ht2)
      have HC2 := Lib.hid hc2
      have HR2 := Lib.hid hR2
      have HB2 := Lib.hid hbx2
      have hsz2 := ht2.size
      have HST := Lib.hid hst
      have HPre := Lib.hid hpre
      have HW2 := Lib.hid hw2
      clear hJk hck hRk o1 o2 o3 hsucc hbump MC MS MK hpb hw64 hnx hst hc2 hR2 hbx2 ht2 hpre hw2
      by_cases hpos : 0 < cj + r.more
      · have hnxe := HP.out hpos
        clear HP HN
        by_cases heq : nx = s.set
        · have HS := Lib.hid (show psAt n R (k + 1) = ⟨s.out, s.c.set jj (cj + r.more), s.x, s.set⟩ by rw [HST.out, if_pos heq])
          have hbq : (nx == s.set) = true := beq_iff_eq.2 heq
          clear heq
          gi_wp2
          gi_region
          all_goals (rw [show ((wr.setCell ⟨W.heap.size, jj, none⟩ (.int .i64 (cj + r.more))).alloc (.cells #[.int .i64 r.x, .int .i64 r.lo, .int .i64 r.hi, .int .i64 jj, .int .i64 r.more] 124)).drew = w2 from HW2.out.symm])
          gi_wp2
          go_roundw
          case rel => exact ⟨k + 1, by omega, by simp, by rw [HS.out], by rw [HS.out], by rw [HS.out]; exact HJ2.out, by rw [HS.out]; exact HC2.out, HR2.out, by omega⟩
          case measure => simp [intOf]; omega
        · have hbq : (nx == s.set) = false := beq_eq_false_iff_ne.2 heq
          by_cases hx : s.x < r.x
          · by_cases hz : s.set = 0
            · have HS := Lib.hid (show psAt n R (k + 1) = ⟨s.out, s.c.set jj (cj + r.more), r.x, nx⟩ by rw [HST.out, if_neg heq, if_neg (fun h => h.2 hz)])
              have hbz : (s.set != 0) = false := by simp [hz]
              clear heq hz
              gi_wp2
              gi_region
              all_goals (rw [show ((wr.setCell ⟨W.heap.size, jj, none⟩ (.int .i64 (cj + r.more))).alloc (.cells #[.int .i64 r.x, .int .i64 r.lo, .int .i64 r.hi, .int .i64 jj, .int .i64 r.more] 124)).drew = w2 from HW2.out.symm])
              gi_wp2
              refine ⟨fun _ h => (by cases h), ?_⟩
              gi_wp2
              go_roundw
              case rel => exact ⟨k + 1, by omega, by simp, by rw [HS.out], by rw [HS.out], by rw [HS.out]; exact HJ2.out, by rw [HS.out]; exact HC2.out, HR2.out, by omega⟩
              case measure => simp [intOf]; omega
            · have HS := Lib.hid (show psAt n R (k + 1) = ⟨s.out ++ [(s.set, (s.x, r.x))], s.c.set jj (cj + r.more), r.x, nx⟩ by rw [HST.out, if_neg heq, if_pos ⟨hx, hz⟩])
              have hbz : (s.set != 0) = true := bne_iff_ne.2 hz
              have hsp := HPre.out
              rw [HS.out] at hsp
              obtain ⟨fn, tmps, assign, body, hy, hRd⟩ := HY.out s.out (s.set, (s.x, r.x)) w2 HJ2.out hsp
              simp only [encSp] at hy
              clear heq hz hsp
              gi_wp2
              gi_region
              all_goals (rw [show ((wr.setCell ⟨W.heap.size, jj, none⟩ (.int .i64 (cj + r.more))).alloc (.cells #[.int .i64 r.x, .int .i64 r.lo, .int .i64 r.hi, .int .i64 jj, .int .i64 r.more] 124)).drew = w2 from HW2.out.symm])
              gi_wp2
              refine ⟨rfl, hRd.mono ?_⟩
              rintro e W3 (⟨rfl, hJ3, hk3⟩ | ⟨rfl, hJx3, _⟩)
              · have q5 : W3.cell? ⟨wr.heap.size, 0, none⟩ = some (.int .i64 r.x) := BoxAt.cell (hk3.block _ _ HB2.out rfl) (i := 0) rfl
                have HJ3 := Lib.hid hJ3
                have HC3 := Lib.hid (hk3.owns (by decide) HC2.out)
                have HR3 := Lib.hid (hk3.owns (by decide) HR2.out)
                have hsz3 := hk3.size
                clear hJ3 hk3
                gi_wp2
                go_roundw
                case rel => exact ⟨k + 1, by omega, by simp, by rw [HS.out], by rw [HS.out], by rw [HS.out]; exact HJ3.out, by rw [HS.out]; exact HC3.out, HR3.out, by omega⟩
                case measure => simp [intOf]; omega
              · have HJx3 := Lib.hid hJx3
                clear hJx3
                gi_wp2
                refine bodyPost_ret (results_none rfl _ _ _) rfl ?_
                exact ⟨⟨_, rfl⟩, .inr ⟨_, HJx3.out⟩⟩
          · have HS := Lib.hid (show psAt n R (k + 1) = ⟨s.out, s.c.set jj (cj + r.more), r.x, nx⟩ by rw [HST.out, if_neg heq, if_neg (fun h => hx h.1)])
            clear heq
            gi_wp2
            gi_region
            all_goals (rw [show ((wr.setCell ⟨W.heap.size, jj, none⟩ (.int .i64 (cj + r.more))).alloc (.cells #[.int .i64 r.x, .int .i64 r.lo, .int .i64 r.hi, .int .i64 jj, .int .i64 r.more] 124)).drew = w2 from HW2.out.symm])
            gi_wp2
            refine ⟨fun _ h => (by cases h), ?_⟩
            gi_wp2
            go_roundw
            case rel => exact ⟨k + 1, by omega, by simp, by rw [HS.out], by rw [HS.out], by rw [HS.out]; exact HJ2.out, by rw [HS.out]; exact HC2.out, HR2.out, by omega⟩
            case measure => simp [intOf]; omega
      · have hnxe := HN.out hpos
        clear HP HN
        by_cases heq : nx = s.set
        · have HS := Lib.hid (show psAt n R (k + 1) = ⟨s.out, s.c.set jj (cj + r.more), s.x, s.set⟩ by rw [HST.out, if_pos heq])
          have hbq : (nx == s.set) = true := beq_iff_eq.2 heq
          clear heq
          gi_wp2
          gi_region
          all_goals (rw [show ((wr.setCell ⟨W.heap.size, jj, none⟩ (.int .i64 (cj + r.more))).alloc (.cells #[.int .i64 r.x, .int .i64 r.lo, .int .i64 r.hi, .int .i64 jj, .int .i64 r.more] 124)).drew = w2 from HW2.out.symm])
          gi_wp2
          go_roundw
          case rel => exact ⟨k + 1, by omega, by simp, by rw [HS.out], by rw [HS.out], by rw [HS.out]; exact HJ2.out, by rw [HS.out]; exact HC2.out, HR2.out, by omega⟩
          case measure => simp [intOf]; omega
        · have hbq : (nx == s.set) = false := beq_eq_false_iff_ne.2 heq
          by_cases hx : s.x < r.x
          · by_cases hz : s.set = 0
            · have HS := Lib.hid (show psAt n R (k + 1) = ⟨s.out, s.c.set jj (cj + r.more), r.x, nx⟩ by rw [HST.out, if_neg heq, if_neg (fun h => h.2 hz)])
              have hbz : (s.set != 0) = false := by simp [hz]
              clear heq hz
              gi_wp2
              gi_region
              all_goals (rw [show ((wr.setCell ⟨W.heap.size, jj, none⟩ (.int .i64 (cj + r.more))).alloc (.cells #[.int .i64 r.x, .int .i64 r.lo, .int .i64 r.hi, .int .i64 jj, .int .i64 r.more] 124)).drew = w2 from HW2.out.symm])
              gi_wp2
              refine ⟨fun _ h => (by cases h), ?_⟩
              gi_wp2
              go_roundw
              case rel => exact ⟨k + 1, by omega, by simp, by rw [HS.out], by rw [HS.out], by rw [HS.out]; exact HJ2.out, by rw [HS.out]; exact HC2.out, HR2.out, by omega⟩
              case measure => simp [intOf]; omega
            · have HS := Lib.hid (show psAt n R (k + 1) = ⟨s.out ++ [(s.set, (s.x, r.x))], s.c.set jj (cj + r.more), r.x, nx⟩ by rw [HST.out, if_neg heq, if_pos ⟨hx, hz⟩])
              have hbz : (s.set != 0) = true := bne_iff_ne.2 hz
              have hsp := HPre.out
              rw [HS.out] at hsp
              obtain ⟨fn, tmps, assign, body, hy, hRd⟩ := HY.out s.out (s.set, (s.x, r.x)) w2 HJ2.out hsp
              simp only [encSp] at hy
              clear heq hz hsp
              gi_wp2
              gi_region
              all_goals (rw [show ((wr.setCell ⟨W.heap.size, jj, none⟩ (.int .i64 (cj + r.more))).alloc (.cells #[.int .i64 r.x, .int .i64 r.lo, .int .i64 r.hi, .int .i64 jj, .int .i64 r.more] 124)).drew = w2 from HW2.out.symm])
              gi_wp2
              refine ⟨rfl, hRd.mono ?_⟩
              rintro e W3 (⟨rfl, hJ3, hk3⟩ | ⟨rfl, hJx3, _⟩)
              · have q5 : W3.cell? ⟨wr.heap.size, 0, none⟩ = some (.int .i64 r.x) := BoxAt.cell (hk3.block _ _ HB2.out rfl) (i := 0) rfl
                have HJ3 := Lib.hid hJ3
                have HC3 := Lib.hid (hk3.owns (by decide) HC2.out)
                have HR3 := Lib.hid (hk3.owns (by decide) HR2.out)
                have hsz3 := hk3.size
                clear hJ3 hk3
                gi_wp2
                go_roundw
                case rel => exact ⟨k + 1, by omega, by simp, by rw [HS.out], by rw [HS.out], by rw [HS.out]; exact HJ3.out, by rw [HS.out]; exact HC3.out, HR3.out, by omega⟩
                case measure => simp [intOf]; omega
              · have HJx3 := Lib.hid hJx3
                clear hJx3
                gi_wp2
                refine bodyPost_ret (results_none rfl _ _ _) rfl ?_
                exact ⟨⟨_, rfl⟩, .inr ⟨_, HJx3.out⟩⟩
          · have HS := Lib.hid (show psAt n R (k + 1) = ⟨s.out, s.c.set jj (cj + r.more), r.x, nx⟩ by rw [HST.out, if_neg heq, if_neg (fun h => hx h.1)])
            clear heq
            gi_wp2
            gi_region
            all_goals (rw [show ((wr.setCell ⟨W.heap.size, jj, none⟩ (.int .i64 (cj + r.more))).alloc (.cells #[.int .i64 r.x, .int .i64 r.lo, .int .i64 r.hi, .int .i64 jj, .int .i64 r.more] 124)).drew = w2 from HW2.out.symm])
            gi_wp2
            refine ⟨fun _ h => (by cases h), ?_⟩
            gi_wp2
            go_roundw
            case rel => exact ⟨k + 1, by omega, by simp, by rw [HS.out], by rw [HS.out], by rw [HS.out]; exact HJ2.out, by rw [HS.out]; exact HC2.out, HR2.out, by omega⟩
            case measure => simp [intOf]; omega
    · obtain rfl : k = m := by omega
      have HJk := Lib.hid hJk
      clear hJk hck hRk
      gi_wp2
      go_end0
      refine ⟨⟨_, rfl⟩, .inl ⟨_, rfl, ?_⟩⟩
      have := HJk.out
      unfold psAt at this
      rw [List.take_of_length_le (by rw [HRm.out]; exact Nat.le_refl _)] at this
      exact this
end Go.Proofs.Ytkpmgdhaollheaa
