/- Squares: a rectangle is added above the others. -/
import Derived.Test.YtkpmgdhaollheaaIQ
import Derived.Deep.RegionHeld3
import Derived.Deep.RegionLaw
import Derived.Deep.AppendLies
import Derived.Deep.CutRange
import Derived.IntWalk
namespace Go.Proofs.Ytkpmgdhaollheaa
open Go.RowKit Go.Shelf

abbrev rcC (r : Rc) : Array Value := #[.int .i64 r.l, .int .i64 r.b, .int .i64 r.r, .int .i64 r.h]
abbrev nbB (r : Rc) : BB := ⟨r.b, r.h, .slice none 0 0, []⟩
abbrev litB (r : Rc) : Obj := .cells #[.int .i64 r.b, .int .i64 r.h, .slice none 0 0] 99

/-- What lies still while the band is made. -/
structure P3 (w X : World) (K B bx : Nat) (L : List BB) (vb : Value) (r : Rc) : Prop where
  box : BoxAt X K #[vb] 90
  rb : BoxAt X bx (rcC r) 39
  sp : ∀ b ∈ L, OwnAt X B 116 2 encS b.v b.c
  keep : Keep UU w X
  low : Below K w X
  sz : B ≤ X.heap.size
  KB : K < B

theorem P3.drew {w X : World} {K B bx : Nat} {L : List BB} {vb : Value} {r : Rc} (h : P3 w X K B bx L vb r) : P3 w X.drew K B bx L vb r :=
  ⟨h.box, h.rb, h.sp, ⟨h.keep.size, h.keep.block⟩, h.low.drew, h.sz, h.KB⟩
theorem P3.alloc {w X : World} {K B bx : Nat} {L : List BB} {vb : Value} {r : Rc} (h : P3 w X K B bx L vb r) (o : Obj) : P3 w (X.alloc o) K B bx L vb r :=
  ⟨h.box.alloc o, h.rb.alloc o, fun b hb => (h.sp b hb).alloc o, h.keep.trans (Keep.of_below ((Below.refl _ _).alloc (Nat.le_refl _) o)), h.low.alloc (by have := h.sz; have := h.KB; omega) o, by rw [World.size_alloc]; have := h.sz; omega, h.KB⟩
theorem P3.grown {w X Y : World} {K B bx : Nat} {L : List BB} {vb : Value} {r : Rc} (h : P3 w X K B bx L vb r) {v : Value} {n : Nat} {xs : List Value} (hg : X.grownBy Y v.ownBlock) (ho : X.ownsRow B 99 3 v n xs) : P3 w Y K B bx L vb r :=
  ⟨BoxAt.other h.box (by decide) hg ho, BoxAt.other h.rb (by decide) hg ho, fun b hb => OwnAt.other (h.sp b hb) (by decide) hg ho, h.keep.trans (Keep.of_row hg ho (by decide)),
    h.low.grown hg (by have := h.sz; have := h.KB; omega) (fun k hk => by have := (World.ownsRow.lt ho k hk).1; have := h.KB; omega), Nat.le_trans h.sz hg.size, h.KB⟩

structure R3 (w X : World) (K B bx : Nat) (L : List BB) (vb : Value) (r : Rc) : Prop where
  box : BoxAt X K #[vb] 90
  rb : BoxAt X bx (rcC r) 39
  own : OwnAt X B 99 3 encB vb (settledB L ++ [nbB r])
  sp : ∀ b ∈ settledB L, OwnAt X B 116 2 encS b.v b.c
  keep : Keep UU w X
  low : Below K w X
  sz : B ≤ X.heap.size

theorem gr_set (w : World) (K j : Nat) (u : Value) : w.grownBy (w.setCell ⟨K, j, none⟩ u) (some K) :=
  let h := (Below.refl 0 w).setCell (p := ⟨K, j, none⟩) (Nat.zero_le _) u
  ⟨h.os, h.tape, h.output, h.size, fun k _ hne => Below.heap_setCell _ _ _ _ (fun e => hne (by rw [e]))⟩

theorem mid_fin {w X : World} {K B bx n g cap : Nat} {L : List BB} {vb : Value} {r : Rc} (h : P3 w X K B bx L vb r) (hb : bx ≠ K) (hn : n = (settledB L).length)
    (ho : X.ownsRow B 99 3 (.slice (some ⟨g, 0, none⟩) (n + 1) cap) (n + 1) ((settledB L).flatMap encB ++ [.int .i64 r.b, .int .i64 r.h, .slice none 0 0])) :
    R3 w (X.setCell ⟨K, 0, none⟩ (.slice (some ⟨g, 0, none⟩) (n + 1) cap)) K B bx L (.slice (some ⟨g, 0, none⟩) (n + 1) cap) r := by
  have hg := gr_set X K 0 (.slice (some ⟨g, 0, none⟩) (n + 1) cap)
  have hbox : BoxAt (X.setCell ⟨K, 0, none⟩ (.slice (some ⟨g, 0, none⟩) (n + 1) cap)) K #[.slice (some ⟨g, 0, none⟩) (n + 1) cap] 90 := heap_setCell_same X K 0 _ _ _ h.box
  have hK := h.KB
  have hlow := h.low.setCell (p := ⟨K, 0, none⟩) (Nat.le_refl _) (.slice (some ⟨g, 0, none⟩) (n + 1) cap)
  have hof : ∀ (q : Nat) (o : Obj), some K = some q → X.heap[q]? = some o → ofU UU o = false := fun q o hq hx => by
    cases hq
    rw [show X.heap[K]? = _ from h.box] at hx
    cases hx
    rfl
  generalize X.setCell ⟨K, 0, none⟩ (.slice (some ⟨g, 0, none⟩) (n + 1) cap) = Y at *
  refine ⟨hbox, (hg.block bx h.rb.lt (by intro e; cases e; exact hb rfl)).trans h.rb, ?_, settledB_mem (Q := fun v c => OwnAt Y B 116 2 encS v c) fun b hb' => ?_, h.keep.trans (Keep.of_grown hg hof), hlow, Nat.le_trans h.sz hg.size⟩
  · unfold OwnAt
    rw [List.length_append, List.length_singleton, ← hn, List.flatMap_append]
    refine World.ownsRow.kept ho hg (.inr fun e => ?_)
    have := (World.ownsRow.lt ho K e).1
    omega
  · refine World.ownsRow.kept (h.sp b hb') hg ?_
    cases hv : b.v.ownBlock with
    | none => exact .inl rfl
    | some q =>
      refine .inr fun e => ?_
      have := (World.ownsRow.lt (h.sp b hb') q hv).1
      cases e
      omega

theorem news_grow {X Y : World} {cs : Array Value} {t e : TypeId} {B k n : Nat} {v : Value} {xs : List Value} (hg : (X.alloc (.cells cs t)).drew.grownBy Y v.ownBlock) (ho : X.ownsRow B e k v n xs) : ∀ j u, cs.toList[j]? = some u → Y.cell? ((⟨X.heap.size, 0, none⟩ : Addr).add j) = some u :=
  fun j u hu => hg.cell (show (X.alloc (.cells cs t)).cell? _ = _ from news_at rfl j u hu) (by
    have : ((⟨X.heap.size, 0, none⟩ : Addr).add j).block = X.heap.size := by unfold Addr.add; split <;> rfl
    rw [this]
    intro e1
    have := (World.ownsRow.lt ho _ e1.symm).2
    omega)
theorem oneB (r : Rc) : ∀ u ∈ ([.int .i64 r.b, .int .i64 r.h, .slice none 0 0] : List Value), u.oneCell' = true := by
  intro u hu
  simp only [List.mem_cons, List.not_mem_nil, or_false] at hu
  rcases hu with rfl | rfl | rfl <;> rfl
/-- What the region that makes the band reads. -/
def Sb (bx : Nat) (r : Rc) (X : World) : Prop := X.cell? ⟨bx, 1, none⟩ = some (.int .i64 r.b) ∧ X.cell? ⟨bx, 3, none⟩ = some (.int .i64 r.h)
theorem P3.sb {w X : World} {K B bx : Nat} {L : List BB} {vb : Value} {r : Rc} (h : P3 w X K B bx L vb r) : Sb bx r X := ⟨h.rb.cell (i := 1) rfl, h.rb.cell (i := 3) rfl⟩
theorem P3.sb2 {w X : World} {K B bx : Nat} {L : List BB} {vb : Value} {r : Rc} (h : P3 w X K B bx L vb r) (hb : bx ≠ K) (u : Value) : Sb bx r (X.setCell ⟨K, 0, none⟩ u) :=
  ⟨(gr_set X K 0 u).cell h.sb.1 (by intro e; cases e; exact hb rfl), (gr_set X K 0 u).cell h.sb.2 (by intro e; cases e; exact hb rfl)⟩

/-- The row that comes in for the spans to be read. -/
theorem rdB {w X : World} {K B bx : Nat} {L : List BB} {vb : Value} {r : Rc} (h : P3 w X K B bx L vb r) (hc : ∀ b ∈ L, b.c.length ≤ 200000000000) : ∀ b ∈ L, RowRd X 2 encS b.v b.c ∧ b.c.length ≤ 200000000000 :=
  fun b hb => ⟨OwnAt.rd (h.sp b hb) (fun _ => rfl), hc b hb⟩

set_option maxHeartbeats 8000000 in
set_option maxRecDepth 100000 in
theorem addNew_any (K B : Nat) (L : List BB) (r : Rc) (vb : Value) (w : World) (h : SqAt w B K L vb) (hlo : ∀ M t, L = M ++ [t] → t.lo ≠ r.b) (hl : L.length ≤ 200000000000) (hc : ∀ b ∈ L, b.c.length ≤ 200000000000) :
    Calls Try.prog 71 #[.pointer (some ⟨K, 0, none⟩), .agg #[.int .i64 r.l, .int .i64 r.b, .int .i64 r.r, .int .i64 r.h]] w fun e w' => e = .returned (.tuple #[]) ∧ ∃ (v' vb' : Value), SqAt w' B K (settledB L ++ [⟨r.b, r.h, v', [(r.l, r.r)]⟩]) vb' ∧ Keep UU w w' ∧ Below K w w' := by
  obtain ⟨i0, hi, hz0, hz1, hz2⟩ := info_parts info_band
  have hKB := h.KB
  have hsz := h.sz
  have hbK : w.heap.size ≠ K := by omega
  have HP1 := Lib.hid (show P3 w (w.alloc (.cells (rcC r) 39)) K B w.heap.size L vb r from
    P3.mk (h.box.alloc _) (BoxAt.new w _ _) (fun b hb => (h.sp b hb).alloc _) (Keep.of_below ((Below.refl _ _).alloc (Nat.le_refl _) _)) ((Below.refl _ _).alloc (by omega) _) (by rw [World.size_alloc]; omega) h.KB)
  have HOw := Lib.hid (OwnAt.alloc h.own (.cells (rcC r) 39))
  have k0 : (w.alloc (.cells (rcC r) 39)).cell? ⟨K, 0, none⟩ = some vb := HP1.out.box.cell (i := 0) rfl
  have x1 : (w.alloc (.cells (rcC r) 39)).cell? ⟨w.heap.size, 1, none⟩ = some (.int .i64 r.b) := HP1.out.rb.cell (i := 1) rfl
  have hlS : (settledB L).length ≤ 200000000000 := Nat.le_trans (settledB_len L) hl
  obtain ⟨ns, hns⟩ : ∃ n, n = (settledB L).length := ⟨_, rfl⟩
  rw [← hns] at hlS
  have HNS := Lib.hid hns
  have HC := Lib.hid hc
  have HL := Lib.hid hl
  have HLO := Lib.hid hlo
  obtain ⟨p, cap, hvb⟩ := h.own.shape
  subst hvb
  clear hns hc hlo h
  obtain ⟨n, hn⟩ : ∃ n, n = L.length := ⟨_, rfl⟩
  rw [← hn] at hl k0 HP1 HOw
  have HN := Lib.hid hn
  clear hn
  have hn0 : (0 : Int) ≤ (n : Int) := by omega
  have hwn : IntKind.i64.wrap ((n : Int) - 1) = (n : Int) - 1 := by
    have e := IntWalk.i64_in ((n : Int) - 1) (by omega)
    exact e
  go_enter Try.func71, Try.ntmps71
  go_wp2_with fail
  generalize hw1 : w.alloc (.cells #[.int .i64 r.l, .int .i64 r.b, .int .i64 r.r, .int .i64 r.h] 39) = w1 at *
  generalize hbx : w.heap.size = bx at *
  clear hw1
  go_cut [26] from 4 to 65 (fun b wx => b = .bool true ∧ ∃ q, wx = w1.drewN q)
  case first =>
    rcases List.eq_nil_or_concat L with rfl | ⟨M, t, rfl⟩
    · have e0 : n = 0 := HN.out
      subst e0
      go_quiet (fail)
      go_wp2
      go_meet
      exact ⟨rfl, _, rfl⟩
    · rw [List.concat_eq_append] at *
      have hne := HLO.out M t rfl
      have hlen : n = M.length + 1 := by rw [HN.out]; simp
      subst hlen
      obtain ⟨g, cap2, e2, hBg, hg, hlc⟩ := HOw.out.form (by simp)
      obtain ⟨rfl, _, rfl⟩ : p = some ⟨g, 0, none⟩ ∧ True ∧ cap = cap2 := by
        injection e2 with e3 e4 e5
        exact ⟨e3, trivial, e5⟩
      clear e2
      have a0 := HOw.out.cell encB_len (by simp) (j := M.length) (by simp) (i := 0) (u := .int .i64 t.lo) (by rw [getElem!_pos _ _ (by simp), List.getElem_append_right (Nat.le_refl _)]; simp; rfl)
      simp only [Nat.add_zero] at a0
      generalize hk : M.length = k at *
      have hk0 : (0 : Int) ≤ (k : Int) := by omega
      have hkl : (k : Int) < (k : Int) + 1 := by omega
      have hneg : ¬ ((k : Int) < 0) := by omega
      have hdc : decide ((k : Int) < 0) = false := decide_eq_false hneg
      have hbe : (t.lo != r.b) = true := by simp [hne]
      clear hne hlc hg hwn
      go_quiet (fail)
      go_wp2
      go_meet
      exact ⟨rfl, _, rfl⟩
  case rest =>
    obtain ⟨rfl, nq, rfl⟩ := hcut
    clear hwn
    go_wp2
    have HP2 := Lib.hid (show P3 w (w1.drewN nq).drew K B bx L (.slice p n cap) r from ⟨HP1.out.box, HP1.out.rb, HP1.out.sp, ⟨HP1.out.keep.size, HP1.out.keep.block⟩, ⟨HP1.out.low.os, HP1.out.low.tape, HP1.out.low.output, HP1.out.low.size, HP1.out.low.block⟩, HP1.out.sz, HP1.out.KB⟩)
    have HO2 := Lib.hid (show OwnAt (w1.drewN nq).drew B 99 3 encB (.slice p n cap) L from HOw.out)
    have k2 : (w1.drewN nq).cell? ⟨K, 0, none⟩ = some (.slice p n cap) := k0
    have x2 : (w1.drewN nq).cell? ⟨bx, 1, none⟩ = some (.int .i64 r.b) := x1
    clear HP1 HOw k0 x1
    generalize w1.drewN nq = w2 at *
    have hKw : K < w2.heap.size := HP2.out.box.lt
    have hKn : K ≠ w2.heap.size := by omega
    have HP3 := Lib.hid (show P3 w (w2.alloc (.cells #[.int .i64 r.b, .int .i64 r.h, .slice none 0 0] 99)).drew K B bx L (.slice p n cap) r from P3.drew (P3.alloc (X := w2) ⟨HP2.out.box, HP2.out.rb, HP2.out.sp, ⟨HP2.out.keep.size, HP2.out.keep.block⟩, ⟨HP2.out.low.os, HP2.out.low.tape, HP2.out.low.output, HP2.out.low.size, HP2.out.low.block⟩, HP2.out.sz, HP2.out.KB⟩ (.cells #[.int .i64 r.b, .int .i64 r.h, .slice none 0 0] 99)))
    have HO3 := Lib.hid (show OwnAt (w2.alloc (.cells #[.int .i64 r.b, .int .i64 r.h, .slice none 0 0] 99)).drew B 99 3 encB (.slice p n cap) L from OwnAt.alloc (w := w2) HO2.out (.cells #[.int .i64 r.b, .int .i64 r.h, .slice none 0 0] 99))
    have HO20 := Lib.hid (show OwnAt w2 B 99 3 encB (.slice p n cap) L from HO2.out)
    have k3 : (w2.alloc (.cells #[.int .i64 r.b, .int .i64 r.h, .slice none 0 0] 99)).cell? ⟨K, 0, none⟩ = some (.slice p n cap) := HP3.out.box.cell (i := 0) rfl
    have HSt1 := Lib.hid (settled_any (.slice p n cap) L B w2.drew HO2.out HL.out (rdB HP2.out HC.out))
    have HSt2 := Lib.hid (settled_any (.slice p n cap) L B (w2.alloc (.cells #[.int .i64 r.b, .int .i64 r.h, .slice none 0 0] 99)).drew HO3.out HL.out (rdB HP3.out HC.out))
    have x3 : w2.cell? ⟨bx, 3, none⟩ = some (.int .i64 r.h) := HP2.out.sb.2
    have HOne := Lib.hid (oneB r)
    clear hKw
    go_cut [] from 4 to 41 (fun wx => ∃ vb', R3 w wx K B bx L vb' r)
    case first =>
      refine wp_region_noPanic ?_
      go_region_law (first
        | (go_simp; go_at_call 91; (with_reducible refine Calls.mono HSt1.out ?_); rintro e w4 ⟨v4, rfl, hown4, hgr4, hz4⟩; clear hz4; have p4 := P3.grown HP2.out hgr4 HO2.out; have ho4 := hown4; unfold OwnAt at ho4; rw [← HNS.out] at ho4; have HO4 := Lib.hid ho4; have y1 := p4.sb.1; have y3 := p4.sb.2; clear hown4 hgr4 ho4)
        | (go_simp; go_at_call 91; (with_reducible refine Calls.mono HSt2.out ?_); rintro e w4 ⟨v4, rfl, hown4, hgr4, hz4⟩; clear hz4; have p4 := P3.grown HP3.out hgr4 HO3.out; have ho4 := hown4; unfold OwnAt at ho4; rw [← HNS.out] at ho4; have HO4 := Lib.hid ho4; have y1 := p4.sb.1; have y3 := p4.sb.2; have NW4 := Lib.hid (news_grow hgr4 HO20.out); clear hown4 hgr4 ho4)
        | (refine step_append_lies _ (by rfl) _ _ _ (by rfl) B 99 i0 _ 3 40 Try.underlying88 hi hz0 hz1 hz2 rfl (by decide) v4 ns ((settledB (L)).flatMap encB) (by rfl) (World.ownsRow.alloc HO4.out (.cells #[.int .i64 r.b, .int .i64 r.h, .slice none 0 0] 99)) ⟨w4.heap.size, 0, none⟩ 1 1 [.int .i64 r.b, .int .i64 r.h, .slice none 0 0] (by rfl) rfl (news_at rfl) HOne.out (by decide) (by unfold maxLen; omega) (by omega) (P3.alloc p4 (.cells #[.int .i64 r.b, .int .i64 r.h, .slice none 0 0] 99)).sz _ rfl ?_; intro g5 cap5 w5 hown5 hgr5 _ _; have p5 := P3.grown (P3.alloc p4 (.cells #[.int .i64 r.b, .int .i64 r.h, .slice none 0 0] 99)) hgr5 (World.ownsRow.alloc HO4.out (.cells #[.int .i64 r.b, .int .i64 r.h, .slice none 0 0] 99)); have k5 : w5.cell? ⟨K, 0, none⟩ = some (.slice p n cap) := p5.box.cell (i := 0) rfl; have f5 := p5.box.free 0; have HO5 := Lib.hid hown5; clear hown5 hgr5)
        | (refine step_append_lies _ (by rfl) _ _ _ (by rfl) B 99 i0 _ 3 40 Try.underlying88 hi hz0 hz1 hz2 rfl (by decide) v4 ns ((settledB (L)).flatMap encB) (by rfl) HO4.out ⟨w2.heap.size, 0, none⟩ 1 1 [.int .i64 r.b, .int .i64 r.h, .slice none 0 0] (by rfl) rfl NW4.out HOne.out (by decide) (by unfold maxLen; omega) (by omega) p4.sz _ rfl ?_; intro g5 cap5 w5 hown5 hgr5 _ _; have p5 := P3.grown p4 hgr5 HO4.out; have k5 : w5.cell? ⟨K, 0, none⟩ = some (.slice p n cap) := p5.box.cell (i := 0) rfl; have f5 := p5.box.free 0; have HO5 := Lib.hid hown5; clear hown5 hgr5)
        | fail)
      all_goals refine NoPanic.normal ?_
      all_goals go_wp2
      all_goals go_meet
      all_goals exact ⟨_, mid_fin p5 hbK HNS.out HO5.out⟩
    case rest =>
      obtain ⟨vb', hR⟩ := hcut
      obtain ⟨g, cap', rfl, hBg, hg, hlc⟩ := hR.own.form (by simp)
      have hlen : (settledB L ++ [nbB r]).length = ns + 1 := by rw [List.length_append, List.length_singleton, ← HNS.out]
      rw [hlen] at hR hlc
      have HEG := Lib.hid (show (settledB L ++ [nbB r])[ns]! = nbB r by rw [HNS.out, getElem!_pos _ _ (by simp), List.getElem_append_right (Nat.le_refl _)]; simp)
      have a2 : wc.cell? ⟨g, ns * 3 + 2, none⟩ = some (.slice none 0 0) := hR.own.cell encB_len (by rw [hlen]) (j := ns) (by rw [hlen]; omega) (i := 2) (by rw [HEG.out]; rfl)
      have k0 : wc.cell? ⟨K, 0, none⟩ = some (.slice (some ⟨g, 0, none⟩) (ns + 1) cap') := hR.box.cell (i := 0) rfl
      have z0 : wc.cell? ⟨bx, 0, none⟩ = some (.int .i64 r.l) := hR.rb.cell (i := 0) rfl
      have z2 : wc.cell? ⟨bx, 2, none⟩ = some (.int .i64 r.r) := hR.rb.cell (i := 2) rfl
      have HR := Lib.hid hR
      have hBz := hR.sz
      obtain ⟨β, hβ⟩ : ∃ β, β = wc.heap.size := ⟨_, rfl⟩
      rw [← hβ] at hBz
      have HLow := Lib.hid (show ∀ b ∈ settledB L, ∀ q, b.v.ownBlock = some q → q < β from fun b hb q hq => by rw [hβ]; exact (World.ownsRow.lt (hR.sp b hb) q hq).2)
      clear hR HP2 HO2 HP3 HO3 HO20 HSt1 HSt2 HOne k2 k3 x2 x3 hKn hn0 hl
      have hk0 : (0 : Int) ≤ (ns : Int) := by omega
      have hkl : (ns : Int) < (ns : Int) + 1 := by omega
      have hwk : IntKind.i64.wrap (ns : Int) = (ns : Int) := wrap_small ns (by omega)
      go_wp2
      go_quiet (fail)
      go_wp2
      have HS2 := Lib.hid (show OwnAt (wc.drewN nq).drew β 116 2 encS (.slice none 0 0) [] from OwnAt.nil ..)
      have hsW : (wc.drewN nq).drew.heap.size = β := by rw [hβ]; rfl
      have HJn := Lib.hid (joinB_any (.slice none 0 0) [] (r.l, r.r) β (wc.drewN nq).drew HS2.out (Nat.le_of_eq hsW.symm) (by simp))
      have HO2 := Lib.hid (show OwnAt (wc.drewN nq).drew B 99 3 encB (.slice (some ⟨g, 0, none⟩) (ns + 1) cap') (settledB L ++ [nbB r]) from HR.out.own)
      have HBox2 := Lib.hid (show BoxAt (wc.drewN nq).drew K #[.slice (some ⟨g, 0, none⟩) (ns + 1) cap'] 90 from HR.out.box)
      have HSp2 := Lib.hid (fun b (hb : b ∈ settledB L) => show OwnAt (wc.drewN nq).drew B 116 2 encS b.v b.c from HR.out.sp b hb)
      have HKW := Lib.hid (show Keep UU w (wc.drewN nq).drew from ⟨HR.out.keep.size, HR.out.keep.block⟩)
      have HLW := Lib.hid (show Below K w (wc.drewN nq).drew from ⟨HR.out.low.os, HR.out.low.tape, HR.out.low.output, HR.out.low.size, HR.out.low.block⟩)
      have y2 : (wc.drewN nq).cell? ⟨g, ns * 3 + 2, none⟩ = some (.slice none 0 0) := a2
      have y0 : (wc.drewN nq).cell? ⟨bx, 0, none⟩ = some (.int .i64 r.l) := z0
      have y4 : (wc.drewN nq).cell? ⟨bx, 2, none⟩ = some (.int .i64 r.r) := z2
      have HSW := Lib.hid hsW
      clear a2 k0 z0 z2 HR hβ hsW
      generalize wc.drewN nq = w6 at *
      go_region_with (go_at_call 92; (with_reducible refine Calls.mono HJn.out ?_); rintro e w4 ⟨v', rfl, hown, hgr⟩; obtain ⟨p4, q4, rfl⟩ := hown.shape; have o4 := OwnAt.other HO2.out (by decide) hgr HS2.out; have c4 := OwnAt.cell o4 encB_len (by rw [hlen]) (j := ns) (by rw [hlen]; omega) (i := 2) (u := .slice none 0 0) (by rw [HEG.out]; rfl); have hx4 := o4; unfold OwnAt at hx4; rw [hlen] at hx4; have f4 := hx4.frozenAt (ns * 3 + 2); have HO4 := Lib.hid o4; have HW4 := Lib.hid hown; have HG4 := Lib.hid hgr; clear o4 hown hgr hx4)
      all_goals (refine bodyPost_end (results_none rfl _ _ _) rfl ?_; have hF := addIn_fin (w := w6.drew) (t := nbB r) (r := r) HNS.out.symm HO2.out HS2.out HBox2.out HSp2.out (Below.refl _ _) HO4.out HW4.out HG4.out HLow.out hBz (Nat.le_of_eq HSW.out.symm) hKB (by rw [HSW.out]; exact hBz); exact ⟨rfl, _, _, hF.1, HKW.out.trans hF.2.1, HLW.out.trans (hF.2.2.mono (by omega))⟩)
end Go.Proofs.Ytkpmgdhaollheaa
