/- Squares: a rectangle is added. -/
import Derived.Test.YtkpmgdhaollheaaGI
import Derived.Test.YtkpmgdhaollheaaIJ
import Derived.Test.YtkpmgdhaollheaaIS
import Derived.Deep.RegionWith
import Derived.Deep.Onto
namespace Go.Proofs.Ytkpmgdhaollheaa
open Go.RowKit Go.Shelf

/-- Squares in the box K; their bands and spans lie in rows of their own from B on. -/
structure SqAt (w : World) (B K : Nat) (L : List BB) (vb : Value) : Prop where
  box : BoxAt w K #[vb] 90
  own : OwnAt w B 99 3 encB vb L
  sp : ∀ b ∈ L, OwnAt w B 116 2 encS b.v b.c
  last : ∀ M t, L = M ++ [t] → ∃ β, B ≤ β ∧ β ≤ w.heap.size ∧ OwnAt w β 116 2 encS t.v t.c ∧ ∀ b ∈ M, ∀ g, b.v.ownBlock = some g → g < β
  sz : B ≤ w.heap.size
  KB : K < B
  nil : L = [] → vb = .slice none 0 0

theorem SqAt.turn {w w' : World} {B K B' : Nat} {L : List BB} {vb : Value} {U : List TypeId} (h : SqAt w B K L vb) (ht : Turn U B' w w') (h1 : U.contains 90 = false) (h2 : U.contains 99 = false) (h3 : U.contains 116 = false) : SqAt w' B K L vb :=
  ⟨ht.box (.inr h1) h.box, ht.owns h2 h.own, fun b hb => ht.owns h3 (h.sp b hb), fun M t e => by obtain ⟨β, b1, b0, b2, b3⟩ := h.last M t e; exact ⟨β, b1, Nat.le_trans b0 ht.size, ht.owns h3 b2, b3⟩, Nat.le_trans h.sz ht.size, h.KB, h.nil⟩

theorem settledB_mem {Q : Value → List Sp → Prop} {L : List BB} (h : ∀ b ∈ L, Q b.v b.c) : ∀ b ∈ settledB L, Q b.v b.c := by
  rcases List.eq_nil_or_concat L with rfl | ⟨m, n, rfl⟩
  · intro b hb; cases hb
  · rw [List.concat_eq_append] at *
    rw [settledB_snoc]
    exact pushB_mem (h n (by simp)) fun b hb => h b (List.mem_append_left _ hb)
theorem settledB_len (L : List BB) : (settledB L).length ≤ L.length := by
  rcases List.eq_nil_or_concat L with rfl | ⟨m, n, rfl⟩
  · exact Nat.le_refl _
  · rw [List.concat_eq_append, settledB_snoc, List.length_append, List.length_singleton]; exact pushB_len n m

/-- The last band's spans, longer. -/
theorem band_last {m : List BB} {t : BB} {r : Rc} {v' : Value} (h : t.lo = r.b) : (m ++ [(⟨t.lo, t.hi, v', pushS t.c (r.l, r.r)⟩ : BB)]).map BB.band = addL ((m ++ [t]).map BB.band) r := by
  rw [List.map_append, List.map_append, List.map_singleton, List.map_singleton, addL_in _ _ _ h]
  rfl
theorem encB_set2 (l : List BB) (b : BB) (u : Value) : ((l ++ [b]).flatMap encB).set (l.length * 3 + 2) u = (l ++ [(⟨b.lo, b.hi, u, b.c⟩ : BB)]).flatMap encB := by
  rw [List.flatMap_append, List.flatMap_append, List.set_append_right _ _ (by rw [encB_tot]; omega), encB_tot, show l.length * 3 + 2 - l.length * 3 = 2 by omega]
  rfl

theorem Keep.of_row {U : List TypeId} {X Y : World} {B : Nat} {e : TypeId} {k n : Nat} {v : Value} {xs : List Value} (hg : X.grownBy Y v.ownBlock) (ho : X.ownsRow B e k v n xs) (he : U.contains e = false) : Keep U X Y :=
  Keep.of_grown hg fun r o hr hx => by
    obtain ⟨c, fz, hc⟩ := Lib.ownsRow_kind ho r hr
    rw [hc] at hx
    cases hx
    exact he

theorem addIn_fin {w w3 w4 : World} {K B k g cap β : Nat} {M : List BB} {t : BB} {r : Rc} {v' : Value} (hk : M.length = k)
    (HO2 : OwnAt w3 B 99 3 encB (.slice (some ⟨g, 0, none⟩) (k + 1) cap) (M ++ [t])) (HS2 : OwnAt w3 β 116 2 encS t.v t.c)
    (HBox2 : BoxAt w3 K #[.slice (some ⟨g, 0, none⟩) (k + 1) cap] 90) (HSp2 : ∀ b ∈ M, OwnAt w3 B 116 2 encS b.v b.c) (HB2 : Below w.heap.size w w3)
    (HO4 : OwnAt w4 B 99 3 encB (.slice (some ⟨g, 0, none⟩) (k + 1) cap) (M ++ [t])) (HW4 : OwnAt w4 β 116 2 encS v' (pushS t.c (r.l, r.r))) (HG4 : w3.grownBy w4 t.v.ownBlock)
    (HLow : ∀ b ∈ M, ∀ g, b.v.ownBlock = some g → g < β) (hβ : B ≤ β) (hβz : β ≤ w.heap.size) (hKB : K < B) (hsz : B ≤ w.heap.size) :
    SqAt (w4.setCell ⟨g, k * 3 + 2, none⟩ v') B K (M ++ [⟨t.lo, t.hi, v', pushS t.c (r.l, r.r)⟩]) (.slice (some ⟨g, 0, none⟩) (k + 1) cap) ∧ Keep UU w (w4.setCell ⟨g, k * 3 + 2, none⟩ v') ∧ Below B w (w4.setCell ⟨g, k * 3 + 2, none⟩ v') := by
  have hlen : (M ++ [t]).length = k + 1 := by simp [hk]
  have hx := HO4
  unfold OwnAt at hx
  rw [hlen] at hx
  obtain ⟨o1, o2⟩ := hx.stored (k * 3 + 2) v'
  have hsz4 : w3.heap.size ≤ w4.heap.size := HG4.size
  have hsz5 : w4.heap.size ≤ (w4.setCell ⟨g, k * 3 + 2, none⟩ v').heap.size := o2.size
  have hsz3 := HB2.size
  generalize hw5 : w4.setCell ⟨g, k * 3 + 2, none⟩ v' = w5 at *
  have hsp : ∀ b ∈ M, OwnAt w5 B 116 2 encS b.v b.c := fun b hb => by
    have h1 : OwnAt w4 B 116 2 encS b.v b.c := by
      refine World.ownsRow.kept (HSp2 b hb) HG4 ?_
      cases hv : b.v.ownBlock with
      | none => exact .inl rfl
      | some q =>
        refine .inr fun e1 => ?_
        have h2 := HLow b hb q hv
        have h3 := (World.ownsRow.lt HS2 q e1.symm).1
        omega
    exact OwnAt.other h1 (by decide) (u := .slice (some ⟨g, 0, none⟩) (k + 1) cap) o2 hx
  have hnew : OwnAt w5 β 116 2 encS v' (pushS t.c (r.l, r.r)) := OwnAt.other HW4 (by decide) (u := .slice (some ⟨g, 0, none⟩) (k + 1) cap) o2 hx
  refine ⟨⟨?_, ?_, ?_, ?_, by omega, hKB, fun e => by simp at e⟩, ?_, ?_⟩
  · exact BoxAt.other (BoxAt.other HBox2 (by decide) HG4 HS2) (by decide) (v := .slice (some ⟨g, 0, none⟩) (k + 1) cap) o2 hx
  · unfold OwnAt
    have he := encB_set2 M t v'
    rw [hk] at he
    rw [he] at o1
    have : (M ++ [(⟨t.lo, t.hi, v', pushS t.c (r.l, r.r)⟩ : BB)]).length = k + 1 := by simp [hk]
    rw [this]
    have h2 : (M ++ [(⟨t.lo, t.hi, v', pushS t.c (r.l, r.r)⟩ : BB)]).flatMap encB = (M ++ [(⟨t.lo, t.hi, v', t.c⟩ : BB)]).flatMap encB := by
      rw [List.flatMap_append, List.flatMap_append]; rfl
    rw [h2]
    exact o1
  · intro b hb
    rcases List.mem_append.1 hb with hb | hb
    · exact hsp b hb
    · cases List.mem_singleton.1 hb
      exact World.ownsRow.mono hnew hβ
  · intro M' t' e
    obtain ⟨rfl, e2⟩ := List.append_inj' e rfl
    cases e2
    exact ⟨β, hβ, by omega, hnew, HLow⟩
  · exact ((Keep.of_below HB2).trans (Keep.of_row HG4 HS2 (by decide))).trans (Keep.of_row (v := .slice (some ⟨g, 0, none⟩) (k + 1) cap) o2 hx (by decide))
  · refine Below.grown (Below.grown (HB2.mono hsz) HG4 (by omega) fun q hq => ?_) (row := some g) o2 (by omega) fun q hq => ?_
    · exact Nat.le_trans hβ (World.ownsRow.lt HS2 q hq).1
    · exact (World.ownsRow.lt hx q hq).1

set_option maxHeartbeats 8000000 in
set_option maxRecDepth 100000 in
/-- The last band takes a span more. -/
theorem addIn_any (K B : Nat) (M : List BB) (t : BB) (r : Rc) (vb : Value) (w : World) (h : SqAt w B K (M ++ [t]) vb) (hlo : t.lo = r.b) (hl : M.length ≤ 200000000000) (hc : t.c.length ≤ 200000000000) :
    Calls Try.prog 71 #[.pointer (some ⟨K, 0, none⟩), .agg #[.int .i64 r.l, .int .i64 r.b, .int .i64 r.r, .int .i64 r.h]] w fun e w' => e = .returned (.tuple #[]) ∧ ∃ (v' : Value), SqAt w' B K (M ++ [⟨t.lo, t.hi, v', pushS t.c (r.l, r.r)⟩]) vb ∧ Keep UU w w' ∧ Below B w w' := by
  obtain ⟨g, cap, rfl, hBg, hg, hlc⟩ := h.own.form (by simp)
  obtain ⟨β, hβ, hβz, hspt, hlow⟩ := h.last M t rfl
  have hlen : (M ++ [t]).length = M.length + 1 := by simp
  have hcell := fun (i : Nat) (u : Value) (hu : (encB t)[i]? = some u) => h.own.cell encB_len rfl (j := M.length) (by simp) (i := i) (u := u) (by rw [getElem!_pos _ _ (by simp), List.getElem_append_right (Nat.le_refl _)]; simpa using hu)
  have a0 := hcell 0 _ rfl
  have a2 := hcell 2 _ rfl
  simp only [Nat.add_zero] at a0
  have k0 := h.box.cell (i := 0) rfl
  have hKB := h.KB
  have hsz := h.sz
  have hxs := h.own
  unfold OwnAt at hxs
  rw [hlen] at hxs hlc k0 ⊢
  have HB1 := Lib.hid (below_one w (.cells #[.int .i64 r.l, .int .i64 r.b, .int .i64 r.r, .int .i64 r.h] 39))
  have HRb := Lib.hid (BoxAt.new w #[.int .i64 r.l, .int .i64 r.b, .int .i64 r.r, .int .i64 r.h] 39)
  have HX := Lib.hid (World.ownsRow.kept hxs (World.grownBy_alloc w (.cells #[.int .i64 r.l, .int .i64 r.b, .int .i64 r.r, .int .i64 r.h] 39) none) (Classical.em _))
  have HS := Lib.hid (OwnAt.alloc hspt (.cells #[.int .i64 r.l, .int .i64 r.b, .int .i64 r.r, .int .i64 r.h] 39))
  have HBox := Lib.hid (h.box.alloc (.cells #[.int .i64 r.l, .int .i64 r.b, .int .i64 r.r, .int .i64 r.h] 39))
  have HSp := Lib.hid (fun b (hb : b ∈ M) => (h.sp b (List.mem_append_left _ hb)).alloc (.cells #[.int .i64 r.l, .int .i64 r.b, .int .i64 r.r, .int .i64 r.h] 39))
  have HLow := Lib.hid hlow
  have HE2 := Lib.hid (fun u => encB_set2 M t u)
  obtain ⟨pt, ct, hpt⟩ := hspt.shape
  have a0' := cell_keep HB1.out a0
  have a2' := cell_keep HB1.out a2
  have k0' := cell_keep HB1.out k0
  have x0 := HRb.out.cell (i := 0) rfl
  have x1 := HRb.out.cell (i := 1) rfl
  have x2 := HRb.out.cell (i := 2) rfl
  have hgw : g < (w.alloc (.cells #[.int .i64 r.l, .int .i64 r.b, .int .i64 r.r, .int .i64 r.h] 39)).heap.size := by simp; omega
  have hβw : β ≤ (w.alloc (.cells #[.int .i64 r.l, .int .i64 r.b, .int .i64 r.r, .int .i64 r.h] 39)).heap.size := by simp; omega
  have HEG := Lib.hid (show (M ++ [t])[M.length]! = t by rw [getElem!_pos _ _ (by simp), List.getElem_append_right (Nat.le_refl _)]; simp)
  clear h hcell hspt hlow hxs a0 a2 k0
  generalize hk : M.length = k at *
  have hk0 : (0 : Int) ≤ (k : Int) := by omega
  have hkl : (k : Int) < (k : Int) + 1 := by omega
  have hwk : IntKind.i64.wrap (k : Int) = (k : Int) := wrap_small k (by omega)
  have hneg : ¬ ((k : Int) < 0) := by omega
  have hdc : decide ((k : Int) < 0) = false := decide_eq_false hneg
  have hbe : (r.b != r.b) = false := by simp
  rw [hlo] at a0'
  go_enter Try.func71, Try.ntmps71
  go_wp2_with fail
  generalize hw1 : w.alloc (.cells #[.int .i64 r.l, .int .i64 r.b, .int .i64 r.r, .int .i64 r.h] 39) = w1 at *
  generalize hbx : w.heap.size = bx at *
  go_quiet (fail)
  generalize nq = n1
  go_wp2
  go_quiet (fail)
  go_wp2
  try rw [World.drewN_drewN]
  generalize n1 + nq = q2
  have HJn := Lib.hid (show Calls Try.prog 92 #[.slice pt t.c.length ct, .agg #[.int .i64 r.l, .int .i64 r.r]] (w1.drewN q2).drew fun e w' => ∃ v', e = .returned v' ∧ OwnAt w' β 116 2 encS v' (pushS t.c (r.l, r.r)) ∧ (w1.drewN q2).drew.grownBy w' t.v.ownBlock by
    have := joinB_any t.v t.c (r.l, r.r) β (w1.drewN q2).drew (show OwnAt (w1.drewN q2).drew β 116 2 encS t.v t.c from HS.out) hβw hc
    rw [hpt] at this ⊢
    exact this)
  have HO2 := Lib.hid (show OwnAt (w1.drewN q2).drew B 99 3 encB (.slice (some ⟨g, 0, none⟩) (k + 1) cap) (M ++ [t]) by unfold OwnAt; rw [hlen]; exact HX.out)
  have HX2 := Lib.hid (show (w1.drewN q2).drew.ownsRow B 99 3 (.slice (some ⟨g, 0, none⟩) (k + 1) cap) (k + 1) ((M ++ [t]).flatMap encB) from HX.out)
  have HS2 := Lib.hid (show OwnAt (w1.drewN q2).drew β 116 2 encS t.v t.c from HS.out)
  have HBox2 := Lib.hid (show BoxAt (w1.drewN q2).drew K #[.slice (some ⟨g, 0, none⟩) (k + 1) cap] 90 by rw [← hlen]; exact HBox.out)
  have HSp2 := Lib.hid (fun b (hb : b ∈ M) => show OwnAt (w1.drewN q2).drew B 116 2 encS b.v b.c from HSp.out b hb)
  have HB2 := Lib.hid (show Below bx w (w1.drewN q2).drew from ⟨HB1.out.os, HB1.out.tape, HB1.out.output, HB1.out.size, HB1.out.block⟩)
  have hg2 : g < (w1.drewN q2).drew.heap.size := hgw
  have y2 : (w1.drewN q2).cell? ⟨g, k * 3 + 2, none⟩ = some t.v := a2'
  have z0 : (w1.drewN q2).cell? ⟨bx, 0, none⟩ = some (.int .i64 r.l) := x0
  have z2 : (w1.drewN q2).cell? ⟨bx, 2, none⟩ = some (.int .i64 r.r) := x2
  have HRb2 := Lib.hid (show BoxAt (w1.drewN q2).drew bx #[.int .i64 r.l, .int .i64 r.b, .int .i64 r.r, .int .i64 r.h] 39 from HRb.out)
  clear HX HS HBox HSp HB1 HRb a0' a2' k0' x0 x1 x2
  generalize w1.drewN q2 = w2 at *
  go_region_with (go_at_call 92; (with_reducible refine Calls.mono HJn.out ?_); rintro e w4 ⟨v', rfl, hown, hgr⟩; obtain ⟨p4, q4, rfl⟩ := hown.shape; have o4 := OwnAt.other HO2.out (by decide) hgr HS2.out; have c4 := OwnAt.cell o4 encB_len (by rw [hlen]) (j := k) (by rw [hlen]; omega) (i := 2) (u := t.v) (by rw [HEG.out]; rfl); have hx4 := o4; unfold OwnAt at hx4; rw [hlen] at hx4; have f4 := hx4.frozenAt (k * 3 + 2); have HX4 := Lib.hid hx4; have HO4 := Lib.hid o4; have HW4 := Lib.hid hown; have HG4 := Lib.hid hgr; clear o4 hown hgr hx4)
  all_goals (refine bodyPost_end (results_none rfl _ _ _) rfl ?_; exact ⟨rfl, _, addIn_fin (r := r) hk HO2.out HS2.out HBox2.out HSp2.out (hbx ▸ HB2.out) HO4.out HW4.out HG4.out HLow.out hβ (hbx ▸ hβz) hKB (hbx ▸ hsz)⟩)
end Go.Proofs.Ytkpmgdhaollheaa
