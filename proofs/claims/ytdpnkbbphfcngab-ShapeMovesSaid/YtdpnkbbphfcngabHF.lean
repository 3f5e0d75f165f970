/- shape.Parts. -/
import Derived.Test.YtdpnkbbphfcngabHE
import Derived.Test.YtdpnkbbphfcngabHB
import Derived.Test.YtdpnkbbphfcngabGNO
import Derived.OwnWalk
namespace Go.Proofs.Ytdpnkbbphfcngab
open Go.RowKit Go.Shelf

/-- A region in memory: the slice of its rectangles, and what they are. -/
structure PV where
  v : Value
  l : List Rc
instance : Inhabited PV := ⟨⟨.slice none 0 0, []⟩⟩
def encV (x : PV) : List Value := [x.v]

/-- Which rectangles are together: WHAT THE CODE COMPUTES. -/
def groupsL (l : List Rc) : Nat → List Bool × List (List Rc)
  | 0 => (List.replicate l.length false, [])
  | k + 1 => if (groupsL l k).1[k]! = true then groupsL l k else ((joinedL l k (groupsL l k).1).1, (groupsL l k).2 ++ [(joinedL l k (groupsL l k).1).2])
inductive All2 (R : List Rc → PV → Prop) : List (List Rc) → List PV → Prop
  | nil : All2 R [] []
  | cons {q : List Rc} {x : PV} {qs : List (List Rc)} {xs : List PV} : R q x → All2 R qs xs → All2 R (q :: qs) (x :: xs)
theorem All2.snoc {R : List Rc → PV → Prop} {q : List Rc} {x : PV} (hq : R q x) : ∀ {qs : List (List Rc)} {xs : List PV}, All2 R qs xs → All2 R (qs ++ [q]) (xs ++ [x])
  | _, _, .nil => .cons hq .nil
  | _, _, .cons h t => .cons h (t.snoc hq)
theorem All2.length {R : List Rc → PV → Prop} : ∀ {qs : List (List Rc)} {xs : List PV}, All2 R qs xs → qs.length = xs.length
  | _, _, .nil => rfl
  | _, _, .cons _ t => by rw [List.length_cons, List.length_cons, t.length]
def IsPart (q : List Rc) (x : PV) : Prop := ∃ e, OfR q x.l e

theorem groups_len (l : List Rc) : ∀ k, k ≤ l.length → (groupsL l k).1.length = l.length ∧ (groupsL l k).2.length ≤ k
  | 0, _ => by simp [groupsL]
  | k + 1, hk => by
    obtain ⟨h1, h2⟩ := groups_len l k (by omega)
    rw [groupsL]
    split
    · exact ⟨h1, by omega⟩
    · exact ⟨(joined_ok h1 (by omega)).len, by simp; omega⟩

theorem made_false (n : Nat) : (madeCells (Value.bool false).cells (n * 1)).toList = (List.replicate n false).flatMap encT := by
  rw [flat_encT, List.map_replicate]
  simp only [madeCells, Value.cells]
  apply List.ext_getElem
  · simp
  · intro i h1 h2
    simp [Nat.mod_one]

theorem info_region : (Try.prog.info? 25).map (fun i => (i.zero, i.size, i.bytes)) = some (some (.agg #[.slice none 0 0]), 1, 24) := by kernel_rfl

/-- Regions in a row of the call's own. -/
def PartsAt (w : World) (B : Nat) (v : Value) (ps : List PV) : Prop := OwnAt w B 25 1 encV v ps ∧ ∀ x ∈ ps, OwnAt w B 49 4 encR x.v x.l

/-- What the loop keeps. -/
structure PtAt (w wr : World) (B : Nat) (l : List Rc) (vt u a : Value) (ps : List PV) (k : Nat) : Prop where
  box : BoxAt wr w.heap.size #[a] 25
  tk : OwnAt wr B 4 1 encT vt (groupsL l k).1
  own : PartsAt wr B u ps
  rel : All2 IsPart (groupsL l k).2 ps
  below : Below w.heap.size w wr
  le : w.heap.size < B

/-- Behind joined. -/
theorem PtAt.mid {w wr w1 : World} {B : Nat} {l : List Rc} {vt u a : Value} {ps : List PV} {k : Nat} (h : PtAt w wr B l vt u a ps k) (hg : wr.grownBy w1 vt.ownBlock) : BoxAt w1 w.heap.size #[a] 25 ∧ PartsAt w1 B u ps ∧ Below w.heap.size w w1 :=
  ⟨h.box.grown (by decide) hg h.tk, ⟨h.own.1.other (by decide) hg h.tk, fun x hx => (h.own.2 x hx).other (by decide) hg h.tk⟩, h.below.grown hg h.below.size (fun k hk => by have := ownsRow_ge h.tk k hk; have := h.le; omega)⟩
theorem PartsAt.kept {w w' : World} {B : Nat} {u : Value} {ps : List PV} (h : PartsAt w B u ps) (hb : Below w.heap.size w w') : PartsAt w' B u ps := ⟨h.1.kept hb, fun x hx => (h.2 x hx).kept hb⟩

set_option maxHeartbeats 4000000 in
set_option maxRecDepth 100000 in
theorem parts_any (v : Value) (l : List Rc) (w : World) (h : RectsAt w v l) :
    Calls Try.prog 17 #[.agg #[v]] w fun e w' => (∃ v' ps c, e = .returned (.tuple #[v', .int .i64 c]) ∧ PartsAt w' w.heap.size v' ps ∧ ((¬ ValidP l ∧ ps = [] ∧ c = 7) ∨ (ValidP l ∧ All2 IsPart (groupsL l l.length).2 ps ∧ c = 0))) ∧ Below w.heap.size w w' := by
  obtain ⟨ib, bi, bz0, bz1, bz2⟩ := info_parts info_bool
  obtain ⟨i0, hi, hz0, hz1, hz2⟩ := info_parts info_region
  have HV := Lib.hid (fun (w' : World) (hb : Below w.heap.size w w') => valid_any v l w' (h.below hb))
  have HR := Lib.hid h
  obtain ⟨p, cap, rfl⟩ := h.shape
  obtain ⟨n, hn⟩ : ∃ n, n = l.length := ⟨_, rfl⟩
  rw [← hn] at HV HR ⊢
  have N := Lib.hid hn
  have B1 := Lib.hid (show Below w.heap.size w (w.alloc (.cells #[.slice p n cap] 25)) from (Below.refl _ _).alloc (Nat.le_refl _) _)
  have X1 := Lib.hid (BoxAt.new w #[.slice p n cap] 25)
  clear h hn
  by_cases hv : ValidP l
  · have VV := Lib.hid hv
    have hn120 : (n : Int) ≤ 120 := by have := hv.1; rw [← N.out] at this; omega
    clear hv
    go_enter Try.func17, Try.ntmps17
    go_wp2_with fail
    refine Calls.mono (HV.out _ B1.out) ?_
    rintro e w1 ⟨hr, hb1⟩
    obtain rfl := hr.is_yes VV.out
    have Y1 := X1.out.below hb1
    have c1 := Y1.cell (i := 0) rfl
    have B2 := Lib.hid (below_step B1.out hb1)
    have hy := Y1.lt
    have Y1 := Lib.hid Y1
    clear hb1 hr
    have hbn : ib.bytes * n ≤ 281474976710656 := by rw [bz2]; omega
    go_wp2_with (at_make; refine wpList_make_full _ rfl _ _ 63 rfl w1.heap.size 4 ib _ 1 Try.underlying63 bi bz0 bz1 .i64 .i64 _ _ n rfl rfl rfl rfl hbn (by unfold maxLen; omega) (Nat.le_refl _) ?_; intro w2 hmk hgm; rw [made_false] at hmk; have hb12 := below_of_gr hgm; have c2 := (Y1.out.below hb12).cell (i := 0) rfl)
    have HST := Lib.hid (show PtAt w w2 w1.heap.size l (.slice (some ⟨w1.heap.size, 0, none⟩) n n) (.slice none 0 0) (.slice p n cap) [] 0 from
      ⟨Y1.out.below hb12, (by unfold OwnAt; rw [show (groupsL l 0).1 = List.replicate n false by rw [N.out]; rfl, List.length_replicate]; exact hmk), ⟨OwnAt.nil .., fun x hx => by cases hx⟩, .nil, below_step B2.out hb12, hy⟩)
    clear hmk hgm hb12 Y1
    go_wp2
    go_loopw [4, 19] (fun u i wr => ∃ (k : Nat) (ps : List PV), k ≤ n ∧ i = .int .i64 k ∧ PtAt w wr w1.heap.size l (.slice (some ⟨w1.heap.size, 0, none⟩) n n) u (.slice p n cap) ps k) (fun _ i _ => n - (intOf i).toNat)
    case atStart => exact ⟨0, [], Nat.zero_le _, rfl, HST.out⟩
    case round =>
      obtain ⟨k, ps, hk, rfl, hst⟩ := hrel
      by_cases hkn : k < n
      · have hkl : k < l.length := by rw [← N.out]; exact hkn
        have hkn' : (k : Int) < (n : Int) := by omega
        obtain ⟨gl1, gl2⟩ := groups_len l k (by omega)
        have hlen := hst.rel.length
        have cb := hst.box.cell (i := 0) rfl
        have ct := hst.tk.cell (fun _ => rfl) (show n = (groupsL l k).1.length by rw [gl1]; exact N.out) (j := k) (by omega) (i := 0) rfl
        simp only [Nat.mul_one, Nat.add_zero] at ct
        have HST := Lib.hid hst
        have hsucc : groupsL l (k + 1) = if (groupsL l k).1[k]! = true then groupsL l k else ((joinedL l k (groupsL l k).1).1, (groupsL l k).2 ++ [(joinedL l k (groupsL l k).1).2]) := rfl
        have HSu := Lib.hid hsucc
        have hps : ps.length ≤ 120 := by omega
        clear hst hsucc
        generalize htk : (groupsL l k).1[k]! = tk at *
        cases tk with
        | true =>
          have HS2 := Lib.hid (show groupsL l (k + 1) = groupsL l k by rw [HSu.out]; rfl)
          go_wp2
          go_roundw
          case rel => exact ⟨k + 1, ps, by omega, by simp, ⟨HST.out.box, by rw [HS2.out]; exact HST.out.tk, HST.out.own, by rw [HS2.out]; exact HST.out.rel, HST.out.below, HST.out.le⟩⟩
          case measure => simp [intOf]; omega
        | false =>
          have HS2 := Lib.hid (show groupsL l (k + 1) = ((joinedL l k (groupsL l k).1).1, (groupsL l k).2 ++ [(joinedL l k (groupsL l k).1).2]) by rw [HSu.out]; rfl)
          have hrat := HR.out.below HST.out.below
          have HJ := Lib.hid (joined_any _ _ l (groupsL l k).1 k w1.heap.size wr hrat HST.out.tk (fun q hq => by
            obtain ⟨p', cap', e, _, _, hc⟩ := HR.out
            obtain ⟨b, off, e2, hlt, _⟩ := hc 0 (by omega)
            subst e2
            cases e
            have h1 : b = q := by simpa [Value.ownBlock] using hq
            have := HST.out.le
            omega) gl1 hkl (by rw [← N.out]; omega) (valid_sm VV.out))
          generalize hjl : joinedL l k (groupsL l k).1 = jl at *
          have hw1r : w1.heap.size < wr.heap.size := (World.ownsRow.lt HST.out.tk w1.heap.size rfl).2
          clear hrat
          go_wp2_with (first
            | (go_at_call 36; refine Calls.mono HJ.out ?_; rintro e w3 ⟨jv, rfl, hjr, _, hjt, hjg⟩; have hw3 := hjg.size; obtain ⟨m1, m2, m3⟩ := HST.out.mid hjg; have HJR := Lib.hid hjr; have HJT := Lib.hid hjt; have M1 := Lib.hid m1; have M2 := Lib.hid m2; have M3 := Lib.hid m3; obtain ⟨pj, cj, rfl⟩ := hjr.shape; clear hjr hjt hjg m1 m2 m3)
            | (go_at_call 26; refine Calls.mono (of_own _ _ _ HJR.out) ?_; rintro e w4 ⟨⟨v4, l4, e4, rfl, ho4, hL4⟩, hb4⟩; have HO4 := Lib.hid ho4; have HL4 := Lib.hid hL4; have HB4 := Lib.hid hb4; have hw4 := hb4.size; obtain ⟨p4, c4, rfl⟩ := ho4.shape; clear ho4 hL4 hb4)
            | (at_builtin; refine wpList_append_own _ rfl _ _ 39 rfl w1.heap.size 25 i0 _ 1 24 Try.underlying39 hi hz0 hz1 hz2 rfl (by decide) _ ps.length (ps.flatMap encV) rfl ((((M2.out.kept HB4.out).1.alloc _).alloc _)) ⟨w4.heap.size + 1, 0, none⟩ 1 1 [.slice p4 l4.length c4] rfl rfl ?c1 ?c2 ?c3 ?c4 ?c5 ?_))
          case c1 => exact news_at (by simp)
          case c2 => exact List.all_eq_true.1 (by rfl)
          case c3 => unfold maxLen; omega
          case c4 => omega
          case c5 => simp; omega
          intro v' w5 hown1 hgrow _
          have HO2 := Lib.hid (OwnAt.snoc (l := ps) (m := [(⟨.slice p4 l4.length c4, l4⟩ : PV)]) (enc := encV) (n := 1) rfl hown1)
          have HG := Lib.hid hgrow
          clear hown1 hgrow
          obtain ⟨p5, c5', rfl⟩ := HO2.out.shape
          have hroot := ((M2.out.kept HB4.out).1.alloc (.cells #[.slice p4 l4.length c4] 25)).alloc (.cells #[.slice p4 l4.length c4] 25)
          have HRoot := Lib.hid hroot
          clear hroot
          go_wp2
          refine ⟨⟨k + 1, ps ++ [⟨.slice p4 l4.length c4, l4⟩], by omega, by simp, ⟨?_, ?_, ⟨HO2.out, ?_⟩, ?_, ?_, HST.out.le⟩⟩, ?_⟩
          · have hb0 := ((M1.out.below HB4.out).alloc (.cells #[.slice p4 l4.length c4] 25)).alloc (.cells #[.slice p4 l4.length c4] 25)
            refine (HG.out.block _ hb0.lt (fun e => ?_)).trans hb0
            have h1 := ownsRow_ge HRoot.out _ e.symm
            have := HST.out.le
            omega
          · rw [HS2.out]
            exact (((HJT.out.kept HB4.out).alloc _).alloc _).other (by decide) HG.out HRoot.out
          · intro x hx
            rcases List.mem_append.1 hx with hx | hx
            · exact ((((M2.out.kept HB4.out).2 x hx).alloc _).alloc _).other (by decide) HG.out HRoot.out
            · rw [List.mem_singleton] at hx
              subst hx
              exact (((HO4.out.mono (by omega)).alloc _).alloc _).other (by decide) HG.out HRoot.out
          · rw [HS2.out]
            exact All2.snoc ⟨e4, HL4.out⟩ HST.out.rel
          · have hb0 := ((below_step M3.out HB4.out).alloc (below_step M3.out HB4.out).size (.cells #[.slice p4 l4.length c4] 25)).alloc (by have := (below_step M3.out HB4.out).size; simp; omega) (.cells #[.slice p4 l4.length c4] 25)
            exact hb0.grown HG.out hb0.size (fun q hq => by have := ownsRow_ge HRoot.out q hq; have := HST.out.le; omega)
          · simp [intOf]; omega
      · obtain rfl : k = n := by omega
        have HST := Lib.hid hst
        clear hst
        go_wp2
        go_ret2
        exact ⟨⟨_, ps, 0, rfl, ⟨HST.out.own.1.mono (by have := HST.out.le; omega), fun x hx => (HST.out.own.2 x hx).mono (by have := HST.out.le; omega)⟩, .inr ⟨VV.out, HST.out.rel, rfl⟩⟩, HST.out.below⟩
  · have VV := Lib.hid hv
    clear hv
    go_enter Try.func17, Try.ntmps17
    go_wp2_with fail
    refine Calls.mono (HV.out _ B1.out) ?_
    rintro e w1 ⟨hr, hb1⟩
    obtain rfl := hr.is_no VV.out
    have B2 := Lib.hid (below_step B1.out hb1)
    clear hb1 hr
    go_wp2
    go_ret2
    exact ⟨⟨_, [], 7, rfl, ⟨OwnAt.nil .., fun x hx => by cases hx⟩, .inl ⟨VV.out, rfl, rfl⟩⟩, B2.out⟩
end Go.Proofs.Ytdpnkbbphfcngab
