import Derived.Test.YtkpmgdhaollheaaGX
import Derived.Test.YtkpmgdhaollheaaGW
import Derived.Test.YtkpmgdhaollheaaGFew
import Derived.Deep.RegionHeld3

/- The law's sanity check. -/
namespace Go.Proofs.Ytkpmgdhaollheaa
open Go.RowKit Go.Shelf

def awL : List Rc := [⟨0, 0, 2, 1⟩, ⟨1, 0, 3, 2⟩]
def awC : List Rc := [⟨0, 0, 3, 1⟩, ⟨1, 1, 3, 2⟩]
theorem awC_canonical : Canonical awC := by
  refine ⟨[⟨0, 1, [(0, 3)]⟩, ⟨1, 2, [(1, 3)]⟩], ⟨?_, ?_⟩, rfl⟩
  · simp [rok, rch]
  · intro b hb
    simp at hb
    rcases hb with rfl | rfl <;> simp [sok, runs, rch]
theorem awC_for : CanonFor (insideB awL) awC := awC_canonical.for.congr fun x y => by
  rw [Bool.eq_iff_iff]
  simp [awC, awL, insideB, insR]
  omega
theorem awC_valid : ValidP awC := ⟨by decide, by intro r hr; simp [awC] at hr; rcases hr with rfl | rfl <;> simp [properR], awC_canonical⟩
theorem aw_of {out : List Rc} {e : Int} (h : OfR awL out e) : out = awC ∧ e = 0 :=
  h.det (.inr (.inr ⟨by decide, by decide, awC, awC_for, .inr ⟨by decide, rfl, rfl⟩⟩))

/-- A literal of two rectangles. -/
theorem lit2 (w : World) (p q : Rc) : RectsAt (w.alloc (.cells #[.int .i64 p.l, .int .i64 p.b, .int .i64 p.r, .int .i64 p.h, .int .i64 q.l, .int .i64 q.b, .int .i64 q.r, .int .i64 q.h] 39)) (.slice (some ⟨w.heap.size, 0, none⟩) 2 2) [p, q] := by
  refine ⟨_, 2, rfl, by unfold maxLen; simp, Nat.le_refl _, fun j hj => ⟨_, 0, rfl, by simp, ?_⟩⟩
  have hb := BoxAt.new w #[.int .i64 p.l, .int .i64 p.b, .int .i64 p.r, .int .i64 p.h, .int .i64 q.l, .int .i64 q.b, .int .i64 q.r, .int .i64 q.h] 39
  match j, hj with
  | 0, _ => exact ⟨hb.cell (i := 0) rfl, hb.cell (i := 1) rfl, hb.cell (i := 2) rfl, hb.cell (i := 3) rfl⟩
  | 1, _ => exact ⟨hb.cell (i := 4) rfl, hb.cell (i := 5) rfl, hb.cell (i := 6) rfl, hb.cell (i := 7) rfl⟩

set_option maxHeartbeats 4000000 in
set_option maxRecDepth 100000 in
theorem awake_any (w : World) : Calls Try.prog 21 #[] w fun e w' => e = .returned (.bool true) ∧ Below w.heap.size w w' := by
  have hOf := of_any _ _ _ (lit2 w ⟨0, 0, 2, 1⟩ ⟨1, 0, 3, 2⟩)
  go_enter Try.func21, Try.ntmps21
  go_wp2_with fail
  refine Calls.mono hOf ?_
  rintro e w1 ⟨⟨v, l, c, rfl, hr, hv, hof⟩, hb1⟩
  obtain ⟨rfl, rfl⟩ := aw_of hof
  have B1 := Lib.hid (below_new hb1)
  have s1 := hb1.size
  clear hOf hof hb1
  obtain ⟨p, cap, rfl⟩ := hr.shape
  have HR := Lib.hid hr
  clear hr hv
  have f0 := (BoxAt.new w1 #[.slice none 0 0] 27).free 0
  go_wp2_with fail
  have b2 := (BoxAt.new w1 #[.slice p awC.length cap] 27).alloc (.cells #[.int .i64 0, .int .i64 0, .int .i64 3, .int .i64 1, .int .i64 1, .int .i64 1, .int .i64 3, .int .i64 2] 39)
  have r2 := HR.out.below (show Below w1.heap.size w1 ((w1.alloc (.cells #[.slice p awC.length cap] 27)).alloc (.cells #[.int .i64 0, .int .i64 0, .int .i64 3, .int .i64 1, .int .i64 1, .int .i64 1, .int .i64 3, .int .i64 2] 39)) from ((Below.refl _ _).alloc (Nat.le_refl _) _).alloc (by simp) _)
  have l2 := lit2 (w1.alloc (.cells #[.slice p awC.length cap] 27)) ⟨0, 0, 3, 1⟩ ⟨1, 1, 3, 2⟩
  have B2 := Lib.hid (show Below w.heap.size w ((w1.alloc (.cells #[.slice p awC.length cap] 27)).alloc (.cells #[.int .i64 0, .int .i64 0, .int .i64 3, .int .i64 1, .int .i64 1, .int .i64 1, .int .i64 3, .int .i64 2] 39)) from (B1.out.alloc B1.out.size _).alloc (by have := B1.out.size; simp; omega) _)
  rw [show (w1.alloc (.cells #[.slice p awC.length cap] 27)).heap.size = w1.heap.size + 1 by simp] at l2
  dsimp only at l2
  generalize (w1.alloc (.cells #[.slice p awC.length cap] 27)).alloc (.cells #[.int .i64 0, .int .i64 0, .int .i64 3, .int .i64 1, .int .i64 1, .int .i64 1, .int .i64 3, .int .i64 2] 39) = w2 at *
  generalize w1.heap.size = bb at *
  have hRe := refRects_any _ _ _ _ w2 r2 l2
  clear l2 f0 HR B1 s1
  refine Calls.mono hRe ?_
  rintro e w3 ⟨hr3, hb3⟩
  obtain rfl := hr3.is_yes rfl
  have b3 := b2.below hb3
  have r3 := r2.below hb3
  have B3 := Lib.hid (below_step B2.out hb3)
  have c3 := b3.cell (i := 0) rfl
  have hAr := area_any _ _ w3 r3
  clear hRe hr3 hb3 b2 r2 B2
  go_wp2_with fail
  refine Calls.mono hAr ?_
  rintro e w4 ⟨z, rfl, ⟨hz, _⟩, hb4⟩
  obtain rfl := hz awC_valid
  have ha : areaL awC = 5 := by decide
  have b4 := b3.below hb4
  have r4 := r3.below hb4
  have B4 := Lib.hid (below_step B3.out hb4)
  have c4 := b4.cell (i := 0) rfl
  have hVa := valid_any _ _ w4 r4
  clear hAr hz hb4 b3 r3 B3 c3
  rw [ha]
  go_wp2_with fail
  refine Calls.mono hVa ?_
  rintro e w5 ⟨hr5, hb5⟩
  obtain rfl := hr5.is_yes awC_valid
  have b5 := b4.below hb5
  have r5 := r4.below hb5
  have B5 := Lib.hid (below_step B4.out hb5)
  have c5 := b5.cell (i := 0) rfl
  have hH1 := has_any _ _ 2 1 w5 r5
  clear hVa hr5 hb5 b4 r4 B4 c4
  go_wp2_with fail
  refine Calls.mono hH1 ?_
  rintro e w6 ⟨hr6, hb6⟩
  obtain rfl := hr6.is_yes ⟨awC_valid, by decide⟩
  have b6 := b5.below hb6
  have r6 := r5.below hb6
  have B6 := Lib.hid (below_step B5.out hb6)
  have c6 := b6.cell (i := 0) rfl
  have hH2 := has_any _ _ 0 1 w6 r6
  clear hH1 hr6 hb6 b5 r5 B5 c5
  go_wp2_with fail
  refine Calls.mono hH2 ?_
  rintro e w7 ⟨hr7, hb7⟩
  obtain rfl := hr7.is_no fun h => absurd h.2 (by decide)
  have B7 := Lib.hid (below_step B6.out hb7)
  clear hH2 hr7 hb7 b6 r6 B6 c6
  go_wp2_with fail
  go_ret
  exact ⟨rfl, B7.out⟩
end Go.Proofs.Ytkpmgdhaollheaa

/- The law RegionForm: halves and wholes, reversed. -/
namespace Go.Proofs.Ytkpmgdhaollheaa
open Go.RowKit Go.Shelf

/-- The pieces of the first j rectangles. -/
structure Pc (l P : List Rc) (j : Nat) : Prop where
  len : P.length ≤ 2 * j
  ok : ∀ r ∈ P, properR r
  same : ∀ x y, insideB P x y = insideB (l.take j) x y

theorem insideB_append (a b : List Rc) (x y : Int) : insideB (a ++ b) x y = (insideB a x y || insideB b x y) := by simp [insideB]
theorem inside_take {l : List Rc} {k : Nat} (hk : k < l.length) (x y : Int) : insideB (l.take (k + 1)) x y = (insideB (l.take k) x y || insR l[k]! x y) := by
  rw [List.take_succ_eq_append_getElem hk, insideB_append, ← getElem!_pos l k hk]
  simp [insideB]
theorem Pc.one {l P : List Rc} {j : Nat} (h : Pc l P j) (hj : j < l.length) (hr : properR l[j]!) {q : Rc} (hq : q = l[j]!) : Pc l (P ++ [q]) (j + 1) := by
  subst hq
  refine ⟨by have := h.len; simp; omega, fun r hm => ?_, fun x y => ?_⟩
  · rcases List.mem_append.1 hm with hm | hm
    · exact h.ok r hm
    · rw [List.mem_singleton] at hm; subst hm; exact hr
  · rw [insideB_append, inside_take hj, h.same]
    simp [insideB]
theorem Pc.two {l P : List Rc} {j : Nat} (h : Pc l P j) (hj : j < l.length) (hr : properR l[j]!) {m : Int} (h1 : l[j]!.l < m) (h2 : m < l[j]!.r) : Pc l (P ++ [⟨l[j]!.l, l[j]!.b, m, l[j]!.h⟩] ++ [⟨m, l[j]!.b, l[j]!.r, l[j]!.h⟩]) (j + 1) := by
  refine ⟨by have := h.len; simp; omega, fun r hm => ?_, fun x y => ?_⟩
  · obtain ⟨a, b, c, d, e, f⟩ := hr
    rcases List.mem_append.1 hm with hm | hm
    · rcases List.mem_append.1 hm with hm | hm
      · exact h.ok r hm
      · rw [List.mem_singleton] at hm; subst hm; exact ⟨a, h1, (show m ≤ 16384 by omega), d, e, f⟩
    · rw [List.mem_singleton] at hm; subst hm; exact ⟨(show 0 ≤ m by omega), h2, c, d, e, f⟩
  · rw [insideB_append, insideB_append, inside_take hj, h.same, Bool.or_assoc]
    congr 1
    generalize l[j]! = q at *
    obtain ⟨ql, qb, qr, qh⟩ := q
    simp only at h1 h2
    rw [Bool.eq_iff_iff]
    simp only [insideB, insR, List.any_cons, List.any_nil, Bool.or_false, Bool.or_eq_true, Bool.and_eq_true, decide_eq_true_eq]
    omega

/-- What the law's list holds while it is turned round. -/
structure Tn (P L : List Rc) : Prop where
  len : L.length = P.length
  mem : ∀ r, r ∈ L ↔ r ∈ P

theorem Tn.inside {P L : List Rc} (h : Tn P L) (x y : Int) : insideB L x y = insideB P x y := by
  rw [Bool.eq_iff_iff]
  simp only [insideB, List.any_eq_true, h.mem]
theorem mem_swap {L : List Rc} {i k : Nat} (hi : i < L.length) (hk : k < L.length) (hik : i ≠ k) (r : Rc) : r ∈ (L.set i L[k]!).set k L[i]! ↔ r ∈ L := by
  rw [getElem!_pos L k hk, getElem!_pos L i hi]
  constructor
  · intro h
    rcases List.mem_or_eq_of_mem_set h with h | rfl
    · rcases List.mem_or_eq_of_mem_set h with h | rfl
      · exact h
      · exact List.getElem_mem _
    · exact List.getElem_mem _
  · intro h
    obtain ⟨j, hj, rfl⟩ := List.mem_iff_getElem.1 h
    rw [List.mem_iff_getElem]
    by_cases e1 : j = i
    · subst e1
      exact ⟨k, by simpa using hk, by simp⟩
    · by_cases e2 : j = k
      · subst e2
        exact ⟨i, by simpa using hi, by rw [List.getElem_set, if_neg (fun e => hik e.symm)]; simp⟩
      · exact ⟨j, by simpa using hj, by rw [List.getElem_set, if_neg (fun e => e2 e.symm), List.getElem_set, if_neg (fun e => e1 e.symm)]⟩
theorem Tn.swap {P L : List Rc} (h : Tn P L) {i k : Nat} (hi : i < L.length) (hk : k < L.length) (hik : i ≠ k) : Tn P ((L.set i L[k]!).set k L[i]!) :=
  ⟨by simpa using h.len, fun r => (mem_swap hi hk hik r).trans (h.mem r)⟩

/-- THE LAW: the pieces and the whole have the form of the whole. -/
theorem form_back {a P L : List Rc} (ha : Canonical a) (hp : ∀ r ∈ a, properR r) (hl : a.length ≤ 40) (h : Pc a P a.length) (ht : Tn P L) {out : List Rc} {e : Int} (ho : OfR (L ++ a) out e) : out = a ∧ e = 0 := by
  have hlen : (L ++ a).length ≤ 120 := by have := h.len; rw [List.length_append, ht.len]; omega
  refine ho.det (.inr (.inr ⟨hlen, allP_iff.2 fun r hm => ?_, a, ha.for.congr fun x y => ?_, .inr ⟨by omega, rfl, rfl⟩⟩))
  · rcases List.mem_append.1 hm with hm | hm
    · exact h.ok r ((ht.mem r).1 hm)
    · exact hp r hm
  · rw [insideB_append, ht.inside, h.same, List.take_length, Bool.or_self]

/-- What comes back from a tape is canonical, proper, and small. -/
theorem drawn_ok {w w' : World} {tb : Nat} {n : Int} {most : Nat} {v : Value} {l : List Rc} (h : Drawn w w' tb n most v l) (hn : n ≤ 16384) (hm : most ≤ 4) : Canonical l ∧ (∀ r ∈ l, properR r) ∧ l.length ≤ 32 := by
  obtain ⟨m, e, hlen, hin, hof⟩ := h.of
  have nilc : Canonical ([] : List Rc) := ⟨[], ⟨⟨trivial, fun r hr => by cases hr⟩, fun r hr => by cases hr⟩, rfl⟩
  rcases hof with ⟨_, rfl, _⟩ | ⟨_, _, rfl, _⟩ | ⟨_, hp, c, hc, hL⟩
  · exact ⟨nilc, (fun r hr => by cases hr), by simp⟩
  · exact ⟨nilc, (fun r hr => by cases hr), by simp⟩
  · rcases hL with ⟨_, rfl, _⟩ | ⟨_, rfl, _⟩
    · exact ⟨nilc, (fun r hr => by cases hr), by simp⟩
    · refine ⟨hc.canonical, ?_, ?_⟩
      · exact canon_proper hc (allP_iff.1 hp)
      · have := form_few hc
        have h1 : 2 * m.length * m.length ≤ 2 * 4 * 4 := Nat.mul_le_mul (by omega) (by omega)
        omega
end Go.Proofs.Ytkpmgdhaollheaa

/- append of rectangles that can be read. -/
namespace Go.Proofs.Ytkpmgdhaollheaa
open Go.RowKit Go.Shelf

section
variable {P : Program}
theorem wpList_append_zero {w : World} {ops : Array Oper} {rest : List Oper} {o : Oper} {a : Act} {Q : Exit → Act → World → Prop} (hgd : o.guard = none) (s x : Operand) (t : TypeId)
    (ho : o.op = .call { callee := .builtin .append, args := #[s, x], argTypes := #[t, t] })
    (base : Nat) (e : TypeId) (i : TypeInfo) (size : Nat) (ht : P.underlying t = some (.slice e)) (hi : P.info? e = some i)
    (v : Value) (n : Nat) (xs : List Value) (hs : a.eval s = v) (hown : w.ownsRow base e size v n xs) (cap : Nat) (hx : a.eval x = .slice none 0 cap)
    (h : wpList P ops Q rest (a.put o.dst v) w) : wpList P ops Q (o :: rest) a w := by
  refine wpList_plain hgd fun K hK => ?_
  have hrun : (Builtin.append_ #[t, t] o.type #[v, .slice none 0 cap]).run P w = .ok v w := by
    rcases hown.2 with ⟨rfl, rfl⟩ | ⟨g, c, cur, rfl, _, _, hnc, _⟩
    · simp [Builtin.append_, run_underlying ht, sizeOf, typeInfo, hi, Builtin.lenOf, Builtin.firstCells]
    · simp [Builtin.append_, run_underlying ht, sizeOf, typeInfo, hi, Builtin.lenOf, Builtin.firstCells, hnc, storeCells]
  unfold Oper.wp
  simp [execOp, ho, resolve, invoke, builtin, hs, hx, hrun, Result.andThen]
  exact hK _ _ h

/-- Rectangles behind an own row of rectangles. -/
theorem wpList_append_rects (w : World) {ops : Array Oper} {rest : List Oper} {o : Oper} {a : Act} {Q : Exit → Act → World → Prop} (hgd : o.guard = none) (s x : Operand) (t : TypeId)
    (ho : o.op = .call { callee := .builtin .append, args := #[s, x], argTypes := #[t, t] })
    (base : Nat) (e : TypeId) (i : TypeInfo) (z : Value) (bytes : Nat) (ht : P.underlying t = some (.slice e)) (hi : P.info? e = some i) (hz : i.zero = some z)
    (hsize : i.size = 4) (hby : i.bytes = bytes) (hzs : z.cells.size = 4)
    (v : Value) (n : Nat) (xs : List Value) (hs : a.eval s = v) (hown : w.ownsRow base e 4 v n xs)
    (v2 : Value) (l : List Rc) (hx : a.eval x = v2) (h2 : RectsAt w v2 l)
    (h63 : n + l.length ≤ maxLen) (hbytes : (n + l.length) * bytes ≤ 140737488355328) (hbase : base ≤ w.heap.size)
    (h : ∀ v' w', w'.ownsRow base e 4 v' (n + l.length) (xs ++ l.flatMap encR) → w.grownBy w' v.ownBlock → wpList P ops Q rest (a.put o.dst v') w') : wpList P ops Q (o :: rest) a w := by
  obtain ⟨p, cap, rfl, hm, hcp, hc⟩ := h2
  rcases List.eq_nil_or_concat l with rfl | ⟨l', r', hl⟩
  · cases p with
    | none =>
      refine wpList_append_zero hgd s x t ho base e i 4 ht hi v n xs hs hown cap hx ?_
      exact h v w (by simpa using hown) (World.grownBy.refl _ _)
    | some ad => exact wpList_append_own w hgd s x t ho base e i z 4 bytes ht hi hz hsize hby hzs (by decide) v n xs hs hown ad 0 cap [] hx rfl (fun j u hu => by cases hu) (fun u hu => by cases hu) h63 hbytes hbase fun v' w' a b _ => h v' w' a b
  · have h0 : 0 < l.length := by rw [hl]; simp
    obtain ⟨b, off, rfl, _, _⟩ := hc 0 h0
    refine wpList_append_own w hgd s x t ho base e i z 4 bytes ht hi hz hsize hby hzs (by decide) v n xs hs hown ⟨b, off, none⟩ l.length cap (l.flatMap encR) hx (flatMap_len encR 4 encR_len l) (fun j u hu => ?_) (oneR l) h63 hbytes hbase fun v' w' a b _ => h v' w' a b
    have hj : j < l.length * 4 := by
      have := (List.getElem?_eq_some_iff.1 hu).1
      rwa [flatMap_len encR 4 encR_len] at this
    have hj4 : j / 4 < l.length := by omega
    obtain ⟨b', off', e', _, c0, c1, c2, c3⟩ := hc (j / 4) hj4
    cases e'
    have hu' : (encR l[j / 4]!)[j % 4]? = some u := by
      rw [← flatMap_get encR 4 encR_len l j hj]; exact hu
    have had : (⟨b, off, none⟩ : Addr).add j = ⟨b, off + j, none⟩ := by simp [Addr.add]
    rw [had]
    have hm4 : j % 4 = 0 ∨ j % 4 = 1 ∨ j % 4 = 2 ∨ j % 4 = 3 := by omega
    rcases hm4 with h4 | h4 | h4 | h4 <;> rw [h4] at hu' <;> cases hu'
    · rw [show off + j = off + j / 4 * 4 by omega]; exact c0
    · rw [show off + j = off + j / 4 * 4 + 1 by omega]; exact c1
    · rw [show off + j = off + j / 4 * 4 + 2 by omega]; exact c2
    · rw [show off + j = off + j / 4 * 4 + 3 by omega]; exact c3
end
end Go.Proofs.Ytkpmgdhaollheaa

/- The law RegionForm: the walk. -/
namespace Go.Proofs.Ytkpmgdhaollheaa
open Go.RowKit Go.Shelf

/-- What the loop over the rectangles keeps, behind world w3. -/
structure FmAt (w3 wr : World) (a P : List Rc) (v : Value) (j : Nat) : Prop where
  pc : Pc a P j
  own : OwnAt wr w3.heap.size 39 4 encR v P
  below : Below w3.heap.size w3 wr

theorem emod_range {c d : Int} (hd : 1 ≤ d) : 0 ≤ c % d ∧ c % d < d := by
  exact ⟨Int.emod_nonneg _ (by omega), Int.emod_lt_of_pos _ (by omega)⟩

theorem flat_set (q : Rc) : ∀ (L : List Rc) (i : Nat), i < L.length → ((((L.flatMap encR).set (i * 4) (.int .i64 q.l)).set (i * 4 + 1) (.int .i64 q.b)).set (i * 4 + 2) (.int .i64 q.r)).set (i * 4 + 3) (.int .i64 q.h) = (L.set i q).flatMap encR
  | p :: L, 0, _ => rfl
  | p :: L, i + 1, h => by
    have ih := flat_set q L i (by simpa using h)
    have e : (i + 1) * 4 = i * 4 + 4 := by omega
    rw [e, List.flatMap_cons, List.set_cons_succ, List.flatMap_cons, ← ih]
    rfl

theorem own_swap {w : World} {B g lp cap : Nat} {L : List Rc} (h : OwnAt w B 39 4 encR (.slice (some ⟨g, 0, none⟩) lp cap) L) (hl : L.length = lp) {i k : Nat} (hi : i < L.length) (hk : k < L.length) (q p : Rc) :
    OwnAt ((((((((((w.setCell ⟨g, i * 4, none⟩ (.int .i64 q.l)).setCell ⟨g, i * 4 + 1, none⟩ (.int .i64 q.b)).setCell ⟨g, i * 4 + 2, none⟩ (.int .i64 q.r)).setCell ⟨g, i * 4 + 3, none⟩ (.int .i64 q.h)).setCell ⟨g, k * 4, none⟩ (.int .i64 p.l)).setCell ⟨g, k * 4 + 1, none⟩ (.int .i64 p.b)).setCell ⟨g, k * 4 + 2, none⟩ (.int .i64 p.r)).setCell ⟨g, k * 4 + 3, none⟩ (.int .i64 p.h))).drew) B 39 4 encR (.slice (some ⟨g, 0, none⟩) lp cap) ((L.set i q).set k p) := by
  subst hl
  unfold OwnAt at h ⊢
  rw [← flat_set p (L.set i q) k (by simpa using hk), ← flat_set q L i hi]
  simp only [List.length_set]
  exact own_drewN ((((((((h.stored (i * 4) _).1.stored (i * 4 + 1) _).1.stored (i * 4 + 2) _).1.stored (i * 4 + 3) _).1.stored (k * 4) _).1.stored (k * 4 + 1) _).1.stored (k * 4 + 2) _).1.stored (k * 4 + 3) _).1 1

set_option maxHeartbeats 8000000 in
set_option maxRecDepth 100000 in
theorem form_any (v : Value) (n : Nat) (g : Nat → Int) (cut : Int) (hc0 : 0 ≤ cut) (hc1 : cut ≤ 255) (W : World) (hI : IntsAt .i64 W v n g) (hcap : CapAt v) :
    Calls Try.prog 5 #[v, .int .u8 cut] W fun e w' => e = .returned (.bool true) ∧ Below W.heap.size W w' := by
  obtain ⟨i0, hi, hz0, hz1, hz2⟩ := info_parts info_rect
  have hNew := new_any v n g W hI hcap
  clear hI hcap
  go_enter Try.func5, Try.ntmps5
  go_wp2_with fail
  refine hNew.mono ?_
  rintro e w1 ⟨rfl, hb1, ht1, hz⟩
  have hRg := region_any w1 W.heap.size ht1 9 (by omega) (by omega) 4 (by omega)
  clear hNew ht1
  go_wp2_with fail
  refine hRg.mono ?_
  rintro e w2 ⟨va, a, rfl, hD⟩
  obtain ⟨hCa, hPa, hLa⟩ := drawn_ok hD (by omega) (by omega)
  have hBW : Below W.heap.size W w2 := ⟨hD.gr.os.trans hb1.os, hD.gr.tape.trans hb1.tape, hD.gr.output.trans hb1.output, Nat.le_trans hb1.size hD.gr.size, fun k hk => (hD.gr.block k (by have := hb1.size; omega) (by simp; omega)).trans (hb1.block k hk)⟩
  have HCa := Lib.hid hCa
  have HPa := Lib.hid hPa
  have HBW := Lib.hid hBW
  obtain ⟨pa, ca, rfl⟩ := hD.at_.shape
  have HA := Lib.hid (hD.at_.below ((Below.refl _ _).alloc (Nat.le_refl _) (.cells #[.slice pa a.length ca] 27)))
  have HBx := Lib.hid (BoxAt.new w2 #[.slice pa a.length ca] 27)
  have hzW := hBW.size
  obtain ⟨na, hna⟩ : ∃ n, n = a.length := ⟨_, rfl⟩
  have NA := Lib.hid hna
  have hna' : (na : Int) ≤ 1000 := by omega
  have hna32 : na ≤ 32 := by omega
  clear hRg hD hCa hPa hBW hb1 hz
  rw [← hna] at HA HBx ⊢
  clear hna hLa
  have x0 := HBx.out.cell (i := 0) rfl
  have f0 := (BoxAt.new w2 #[.slice none 0 0] 27).free 0
  go_wp2_with fail
  generalize hw3 : w2.alloc (.cells #[.slice pa na ca] 27) = w3 at *
  have HS3 := Lib.hid (show w3.heap.size = w2.heap.size + 1 by rw [← hw3]; simp)
  have HW3 := Lib.hid (show Below W.heap.size W w3 by rw [← hw3]; exact HBW.out.alloc HBW.out.size _)
  clear hw3 f0 HBW
  go_loopw [7, 22] (fun u i wr => ∃ (P : List Rc) (j : Nat), j ≤ na ∧ i = .int .i64 j ∧ FmAt w3 wr a P u j) (fun _ i _ => na - (intOf i).toNat)
  case atStart => exact ⟨[], 0, Nat.zero_le _, rfl, ⟨Nat.zero_le _, (fun r hr => by cases hr), fun x y => rfl⟩, OwnAt.nil .., Below.refl _ _⟩
  case round =>
    obtain ⟨P, j, hj, rfl, hF⟩ := hrel
    obtain ⟨p7, c7, rfl⟩ := hF.own.shape
    by_cases hjn : j < na
    · have hja : j < a.length := by rw [← NA.out]; exact hjn
      have hjn' : (j : Int) < (na : Int) := by omega
      obtain ⟨pq, cq, e1, _, _, hcell⟩ := HA.out.below hF.below
      rw [← NA.out] at e1
      cases e1
      obtain ⟨b, off, rfl, hblt, c0, c1, c2, c3⟩ := hcell j hja
      have hpr := HPa.out a[j]! (by rw [getElem!_pos a j hja]; exact List.getElem_mem _)
      have HPc := Lib.hid hF.pc
      have HO := Lib.hid hF.own
      have HB := Lib.hid hF.below
      have hszr := hF.below.size
      have hPl := hF.pc.len
      have HONE := Lib.hid (fun q => hF.pc.one hja hpr (q := q))
      have HTWO := Lib.hid (fun m => hF.pc.two hja hpr (m := m))
      clear hF hcell
      generalize a[j]! = r at *
      obtain ⟨r0, r1, r2, r3, r4, r5⟩ := hpr
      have d1 : wrap64 (r.r - r.l) = r.r - r.l := wrap_in (by omega) (by omega)
      have d2 : r.r - r.l ≠ 0 := by omega
      have d3 : r.r - r.l ≠ -1 := by omega
      have d4 : (r.r - r.l == 0) = false := beq_eq_false_iff_ne.2 d2
      obtain ⟨t0, t1⟩ := emod_range (c := cut) (show 1 ≤ r.r - r.l by omega)
      have d5 : wrap64 (r.l + cut % (r.r - r.l)) = r.l + cut % (r.r - r.l) := wrap_in (by omega) (by omega)
      have HOx := Lib.hid (fun (q : Nat) => (show OwnAt ((wr.alloc (.cells #[.int .i64 r.l, .int .i64 r.b, .int .i64 r.r, .int .i64 r.h] 39)).drewN q) w3.heap.size 39 4 encR (.slice p7 P.length c7) P from own_drewN (HO.out.alloc _) q))
      have HXx := Lib.hid (fun (q : Nat) => (show BoxAt ((wr.alloc (.cells #[.int .i64 r.l, .int .i64 r.b, .int .i64 r.r, .int .i64 r.h] 39)).drewN q) wr.heap.size #[.int .i64 r.l, .int .i64 r.b, .int .i64 r.r, .int .i64 r.h] 39 from BoxAt.new ..))
      have HBx4 := Lib.hid (fun (q : Nat) => (show Below w3.heap.size w3 ((wr.alloc (.cells #[.int .i64 r.l, .int .i64 r.b, .int .i64 r.r, .int .i64 r.h] 39)).drewN q) from below_drewN (HB.out.alloc HB.out.size _) q))
      have HSx := Lib.hid (fun (q : Nat) => (show ((wr.alloc (.cells #[.int .i64 r.l, .int .i64 r.b, .int .i64 r.r, .int .i64 r.h] 39)).drewN q).heap.size = wr.heap.size + 1 by simp))
      have HNE := Lib.hid (show some wr.heap.size ≠ (Value.slice p7 P.length c7).ownBlock from fun e => absurd (World.ownsRow.lt HO.out wr.heap.size e.symm).2 (Nat.lt_irrefl _))
      by_cases hm : 0 < cut % (r.r - r.l)
      · have HP2 := Lib.hid (HTWO.out (r.l + cut % (r.r - r.l)) (by omega) (by omega))
        clear HTWO HONE
        go_wp2
        go_quiet (fail)
        have box4 := HXx.out nq
        have HO4 := Lib.hid (HOx.out nq)
        have HB4 := Lib.hid (HBx4.out nq)
        have HS4 := Lib.hid (HSx.out nq)
        clear HXx HOx HBx4 HSx HO HB
        generalize (wr.alloc (.cells #[.int .i64 r.l, .int .i64 r.b, .int .i64 r.r, .int .i64 r.h] 39)).drewN nq = w4 at *
        have k0 := box4.cell (i := 0) rfl
        have k1 := box4.cell (i := 1) rfl
        have k2 := box4.cell (i := 2) rfl
        have k3 := box4.cell (i := 3) rfl
        have HX4 := Lib.hid box4
        clear box4 c0 c1 c2 c3
        have hxs := HO4.out
        unfold OwnAt at hxs
        have HPl := Lib.hid hPl
        clear hPl
        have hl1 : P.length ≤ 1000 := by have := HPl.out; omega
        generalize hle : P.length = len at *
        generalize hxe : P.flatMap encR = xs at hxs
        have hmm : r.l < r.l + cut % (r.r - r.l) := by omega
        generalize r.l + cut % (r.r - r.l) = mm at *
        go_wp2_with (first | (at_builtin; refine wpList_append_own _ rfl _ _ 25 rfl w3.heap.size 39 i0 _ 4 32 Try.underlying25 hi hz0 hz1 hz2 rfl (by decide) _ _ _ rfl (hxs.alloc _) ⟨w4.heap.size, 0, none⟩ 1 1 [.int .i64 r.l, .int .i64 r.b, .int .i64 mm, .int .i64 r.h] rfl rfl ?c1 ?c2 ?c3 ?c4 ?c5 ?_))
        case c1 => exact news_at (cs := #[.int .i64 r.l, .int .i64 r.b, .int .i64 mm, .int .i64 r.h]) rfl
        case c2 => exact fun u hu => by simp at hu; rcases hu with rfl | rfl | rfl | rfl <;> rfl
        case c3 => unfold maxLen; omega
        case c4 => omega
        case c5 => have := HB4.out.size; simp; omega
        intro v5 w5 hown5 hgrow _
        have hrow := World.ownsRow.lt hxs
        have HB5 := Lib.hid ((HB4.out.alloc HB4.out.size _).grown hgrow (by have := HB4.out.size; simp; omega) (fun k e => (hrow k e).1))
        have box5 := (HX4.out.alloc (.cells #[.int .i64 r.l, .int .i64 r.b, .int .i64 mm, .int .i64 r.h] 39)).but hgrow HNE.out
        subst hxe
        have HO5 := Lib.hid (OwnAt.snoc (l := P) (m := [⟨r.l, r.b, mm, r.h⟩]) (n := 1) (enc := encR) rfl (by rw [hle]; exact hown5))
        have HX5 := Lib.hid box5
        have HLZ := Lib.hid (show (P ++ ([⟨r.l, r.b, mm, r.h⟩] : List Rc)).length ≤ 1001 by rw [List.length_append, List.length_singleton, hle]; omega)
        clear hxs hown5 hgrow hrow box5 k0 k1 k2 k3 HX4 HB4 HO4
        have y1 := HX5.out.cell (i := 1) rfl
        have y2 := HX5.out.cell (i := 2) rfl
        have y3 := HX5.out.cell (i := 3) rfl
        obtain ⟨pz, cz, ez⟩ := HO5.out.shape
        subst ez
        have hys := HO5.out
        unfold OwnAt at hys
        have hlz : (P ++ ([⟨r.l, r.b, mm, r.h⟩] : List Rc)).length ≤ 1001 := HLZ.out
        generalize hlq : (P ++ ([⟨r.l, r.b, mm, r.h⟩] : List Rc)).length = lq at *
        generalize hyq : (P ++ ([⟨r.l, r.b, mm, r.h⟩] : List Rc)).flatMap encR = ys at hys
        go_wp2_with (first | (at_builtin; refine wpList_append_own _ rfl _ _ 25 rfl w3.heap.size 39 i0 _ 4 32 Try.underlying25 hi hz0 hz1 hz2 rfl (by decide) _ _ _ rfl (hys.alloc _) ⟨w5.heap.size, 0, none⟩ 1 1 [.int .i64 mm, .int .i64 r.b, .int .i64 r.r, .int .i64 r.h] rfl rfl ?c1 ?c2 ?c3 ?c4 ?c5 ?_))
        case c1 => exact news_at (cs := #[.int .i64 mm, .int .i64 r.b, .int .i64 r.r, .int .i64 r.h]) rfl
        case c2 => exact fun u hu => by simp at hu; rcases hu with rfl | rfl | rfl | rfl <;> rfl
        case c3 => unfold maxLen; omega
        case c4 => omega
        case c5 => have := HB5.out.size; simp; omega
        intro v6 w6 hownz hgroz _
        have hroz := World.ownsRow.lt hys
        have HBz := Lib.hid ((HB5.out.alloc HB5.out.size _).grown hgroz (by have := HB5.out.size; simp; omega) (fun k e => (hroz k e).1))
        subst hyq
        have HOz := Lib.hid (OwnAt.snoc (l := P ++ ([⟨r.l, r.b, mm, r.h⟩] : List Rc)) (m := [⟨mm, r.b, r.r, r.h⟩]) (n := 1) (enc := encR) rfl (by rw [hlq]; exact hownz))
        clear hys hownz hgroz hroz
        go_wp2
        go_roundw
        case rel => exact ⟨_, j + 1, by omega, by simp, HP2.out, HOz.out, HBz.out⟩
        case measure => simp [intOf]; omega
      · have hz0' : cut % (r.r - r.l) = 0 := by omega
        have HP1 := Lib.hid (HONE.out ⟨r.l, r.b, r.r, r.h⟩ rfl)
        clear HTWO HONE
        rw [hz0', Int.add_zero] at d5
        go_wp2
        go_quiet (fail)
        have box4 := HXx.out nq
        have HO4 := Lib.hid (HOx.out nq)
        have HB4 := Lib.hid (HBx4.out nq)
        clear HXx HOx HBx4 HSx HO HB
        generalize (wr.alloc (.cells #[.int .i64 r.l, .int .i64 r.b, .int .i64 r.r, .int .i64 r.h] 39)).drewN nq = w4 at *
        have k0 := box4.cell (i := 0) rfl
        have HX4 := Lib.hid box4
        have HLZ := Lib.hid (show P.length ≤ 1001 by omega)
        clear box4 c0 c1 c2 c3 hPl
        have y1 := HX4.out.cell (i := 1) rfl
        have y2 := HX4.out.cell (i := 2) rfl
        have y3 := HX4.out.cell (i := 3) rfl
        have hys := HO4.out
        unfold OwnAt at hys
        have hlz : (P).length ≤ 1001 := HLZ.out
        generalize hlq : (P).length = lq at *
        generalize hyq : (P).flatMap encR = ys at hys
        go_wp2_with (first | (at_builtin; refine wpList_append_own _ rfl _ _ 25 rfl w3.heap.size 39 i0 _ 4 32 Try.underlying25 hi hz0 hz1 hz2 rfl (by decide) _ _ _ rfl (hys.alloc _) ⟨w4.heap.size, 0, none⟩ 1 1 [.int .i64 r.l, .int .i64 r.b, .int .i64 r.r, .int .i64 r.h] rfl rfl ?c1 ?c2 ?c3 ?c4 ?c5 ?_))
        case c1 => exact news_at (cs := #[.int .i64 r.l, .int .i64 r.b, .int .i64 r.r, .int .i64 r.h]) rfl
        case c2 => exact fun u hu => by simp at hu; rcases hu with rfl | rfl | rfl | rfl <;> rfl
        case c3 => unfold maxLen; omega
        case c4 => omega
        case c5 => have := HB4.out.size; simp; omega
        intro v6 w6 hownz hgroz _
        have hroz := World.ownsRow.lt hys
        have HBz := Lib.hid ((HB4.out.alloc HB4.out.size _).grown hgroz (by have := HB4.out.size; simp; omega) (fun k e => (hroz k e).1))
        subst hyq
        have HOz := Lib.hid (OwnAt.snoc (l := P) (m := [⟨r.l, r.b, r.r, r.h⟩]) (n := 1) (enc := encR) rfl (by rw [hlq]; exact hownz))
        clear hys hownz hgroz hroz
        go_wp2
        go_roundw
        case rel => exact ⟨_, j + 1, by omega, by simp, HP1.out, HOz.out, HBz.out⟩
        case measure => simp [intOf]; omega
    · obtain rfl : j = na := by omega
      have HPc := Lib.hid (show Pc a P a.length by rw [← NA.out]; exact hF.pc)
      have HO := Lib.hid hF.own
      have HB := Lib.hid hF.below
      have hPl : P.length ≤ 64 := by have := hF.pc.len; omega
      clear hF
      have wl : wrap64 ((P.length : Int) - 1) = (P.length : Int) - 1 := wrap_in (by omega) (by omega)
      go_wp2
      generalize hlP : P.length = lp at *
      go_loopw [11, 12] (fun u v wk => ∃ (L : List Rc) (i : Nat) (kk : Int), u = .int .i64 i ∧ v = .int .i64 kk ∧ i ≤ 100 ∧ -1 ≤ kk ∧ kk < lp ∧ Tn P L ∧ OwnAt wk w3.heap.size 39 4 encR (.slice p7 lp c7) L ∧ Below w3.heap.size w3 wk) (fun u v _ => (intOf v - intOf u).toNat)
      case atStart => exact ⟨P, 0, (lp : Int) - 1, rfl, rfl, by omega, by omega, by omega, ⟨rfl, fun _ => Iff.rfl⟩, HO.out, HB.out⟩
      case round =>
        clear HO HB
        obtain ⟨L, i, kk, rfl, rfl, hi100, hk1, hk2, hT, hown, hb⟩ := hrel
        by_cases hik : (i : Int) < kk
        · obtain ⟨k, rfl⟩ := Int.eq_ofNat_of_zero_le (show 0 ≤ kk by omega)
          have hLl : L.length = lp := by rw [hT.len]; exact hlP
          obtain ⟨gg, cc, e1, hgB, hgl, hlc⟩ := hown.form (by omega)
          cases e1
          have hiL : i < L.length := by omega
          have hkL : k < L.length := by omega
          have a0 := hown.cell encR_len rfl hiL (i := 0) rfl
          have a1 := hown.cell encR_len rfl hiL (i := 1) rfl
          have a2 := hown.cell encR_len rfl hiL (i := 2) rfl
          have a3 := hown.cell encR_len rfl hiL (i := 3) rfl
          have b0 := hown.cell encR_len rfl hkL (i := 0) rfl
          have b1 := hown.cell encR_len rfl hkL (i := 1) rfl
          have b2 := hown.cell encR_len rfl hkL (i := 2) rfl
          have b3 := hown.cell encR_len rfl hkL (i := 3) rfl
          simp only [Nat.add_zero] at a0 b0
          have hbox : ∃ cur, BoxAt wr gg cur 39 := by
            rcases hown.2 with ⟨e, _⟩ | ⟨g', cap', cur, e, _, hg, _⟩
            · cases e
            · cases e
              exact ⟨cur, hg⟩
          obtain ⟨cur, hbox⟩ := hbox
          have fi0 := hbox.free (i * 4)
          have fi1 := hbox.free (i * 4 + 1)
          have fi2 := hbox.free (i * 4 + 2)
          have fi3 := hbox.free (i * 4 + 3)
          have fk0 := hbox.free (k * 4)
          have fk1 := hbox.free (k * 4 + 1)
          have fk2 := hbox.free (k * 4 + 2)
          have fk3 := hbox.free (k * 4 + 3)
          have hik2 : i < k := by omega
          have HS := Lib.hid (hT.swap hiL hkL (by omega))
          have HF1 := Lib.hid (flat_set L[k]! L i hiL)
          have HF2 := Lib.hid (flat_set L[i]! (L.set i L[k]!) k (by simpa using hkL))
          have HOw := Lib.hid hown
          have HBl := Lib.hid hb
          have HLl := Lib.hid hLl
          have HG := Lib.hid hgB
          have hkl' : (k : Int) < (L.length : Int) := by omega
          have hil' : (i : Int) < (L.length : Int) := by omega
          have hi0 : (0 : Int) ≤ (i : Int) := by omega
          have hk0 : (0 : Int) ≤ (k : Int) := by omega
          have n1 : k ≠ i := by omega
          have n2 : i ≠ k := by omega
          have wi : wrap64 ((i : Int) + 1) = (i : Int) + 1 := wrap_in (by omega) (by omega)
          have wk : wrap64 ((k : Int) - 1) = (k : Int) - 1 := wrap_in (by omega) (by omega)
          clear hT hown hb hbox hLl hlc hiL hkL hgB
          generalize hle : L.length = len at *
          generalize L[i]! = p at *
          generalize L[k]! = q at *
          have WI := Lib.hid wi
          have WK := Lib.hid wk
          clear wi wk wl
          have KK := Lib.hid (show (i + 1 ≤ 100) ∧ (-1 ≤ (k : Int) - 1) ∧ ((k : Int) - 1 < (len : Int)) from ⟨by omega, by omega, by omega⟩)
          have KI := Lib.hid (show i < L.length ∧ k < L.length from ⟨by omega, by omega⟩)
          have HIK := Lib.hid hik
          clear n1 n2 hik hi100 hk1 hk2
          go_wp2
          refine wp_region_noPanic ?_
          go_big_region
          refine NoPanic.normal ?_
          have wi : Value.int .i64 (wrap64 ((i : Int) + 1)) = .int .i64 ((i : Int) + 1) := congrArg _ WI.out
          have wk : Value.int .i64 (wrap64 ((k : Int) - 1)) = .int .i64 ((k : Int) - 1) := congrArg _ WK.out
          have hik := HIK.out
          go_wp2
          go_roundw
          case rel => exact ⟨(L.set i q).set k p, i + 1, (k : Int) - 1, by simp, rfl, KK.out.1, KK.out.2.1, KK.out.2.2, HS.out, own_swap HOw.out hle KI.out.1 KI.out.2 q p, ((((((((HBl.out.setCell HG.out _).setCell HG.out _).setCell HG.out _).setCell HG.out _).setCell HG.out _).setCell HG.out _).setCell HG.out _).setCell HG.out _).drew⟩
          case measure => clear wi wk; simp [intOf]; omega
        · have hik' : ¬ (i : Int) < kk := hik
          have HT := Lib.hid hT
          have HO := Lib.hid hown
          have HB := Lib.hid hb
          have hLl : L.length = lp := by rw [hT.len]; exact hlP
          have X3 := Lib.hid (HBx.out.below hb)
          have A3 := Lib.hid (HA.out.below hb)
          have x1 := X3.out.cell (i := 0) rfl
          have hxs := hown
          unfold OwnAt at hxs
          have hlpp : L.length ≤ 1000 := by omega
          have hsz3 := hb.size
          clear hT hown hb x0
          go_wp2_with (first | (at_builtin; refine wpList_append_rects _ rfl _ _ 25 rfl w3.heap.size 39 i0 _ 32 Try.underlying25 hi hz0 hz1 hz2 rfl _ _ _ rfl (by first | exact hxs | (rw [hLl] at hxs; exact hxs)) _ a rfl A3.out ?c3 ?c4 ?c5 ?_))
          case c3 => unfold maxLen; rw [← NA.out]; omega
          case c4 => rw [← NA.out]; omega
          (try case c5 => exact hsz3)
          intro v5 w5 hown5 hgrow
          have B5 := Lib.hid (HB.out.grown hgrow hsz3 (ownsRow_ge hxs))
          have X5 := Lib.hid (X3.out.grown (by decide) hgrow hxs)
          have O5 := Lib.hid (OwnAt.snoc (l := L) (m := a) (n := a.length) (enc := encR) rfl (by rw [hLl]; exact hown5))
          have HOf := Lib.hid (of_any v5 (L ++ a) w5 O5.out.rects)
          have A5 := Lib.hid (HA.out.below B5.out)
          clear hown5 hgrow hxs x1 X3 A3
          go_wp2_with fail
          refine Calls.mono HOf.out ?_
          rintro e w6 ⟨⟨v6, l6, c, rfl, hr, hv, hof⟩, hb6⟩
          have hna40 : a.length ≤ 40 := by rw [← NA.out]; omega
          obtain ⟨hl6, rfl⟩ := form_back HCa.out HPa.out hna40 HPc.out HT.out hof
          obtain ⟨n6, hn6⟩ : ∃ n, n = l6.length := ⟨_, rfl⟩
          obtain ⟨p6, c6, e6⟩ := hr.shape
          rw [← hn6] at e6
          subst e6
          have HL6 := Lib.hid hl6
          have hV : ValidP a := ⟨by omega, HPa.out, HCa.out⟩
          have HV := Lib.hid hV
          have B6 := Lib.hid (below_step B5.out hb6)
          have X6 := Lib.hid (X5.out.below hb6)
          have A6 := Lib.hid (A5.out.below hb6)
          have HR6 := Lib.hid hr
          clear hr hv hof hb6 HOf hl6 hn6 hV
          rw [HL6.out] at HR6
          have b7 := X6.out.alloc (.cells #[.slice p6 n6 c6] 27)
          have d7 := BoxAt.new w6 #[.slice p6 n6 c6] 27
          have A7 := A6.out.below ((Below.refl _ _).alloc (Nat.le_refl _) (.cells #[.slice p6 n6 c6] 27))
          have R7 := HR6.out.below ((Below.refl _ _).alloc (Nat.le_refl _) (.cells #[.slice p6 n6 c6] 27))
          have B7 := Lib.hid (B6.out.alloc B6.out.size (.cells #[.slice p6 n6 c6] 27))
          have f7 := (BoxAt.new w6 #[.slice none 0 0] 27).free 0
          have hsm := Lib.hid (fun (W' : World) (h : Below (w6.alloc (.cells #[.slice p6 n6 c6] 27)).heap.size (w6.alloc (.cells #[.slice p6 n6 c6] 27)) W') => same_any _ _ _ _ W' (A7.below h) (R7.below h) (by omega) (by omega))
          have hvl := Lib.hid (fun (W' : World) (h : Below (w6.alloc (.cells #[.slice p6 n6 c6] 27)).heap.size (w6.alloc (.cells #[.slice p6 n6 c6] 27)) W') => valid_any _ _ W' (R7.below h))
          have X7 := Lib.hid b7
          have D7 := Lib.hid d7
          have z0 := b7.cell (i := 0) rfl
          have z1 := d7.cell (i := 0) rfl
          clear A7 R7 b7 d7 A6 HR6 A5 X5 X6
          go_wp2_with fail
          refine Calls.mono (hsm.out _ (Below.refl _ _)) ?_
          rintro e w8 ⟨he8, hb8⟩
          obtain rfl : e = .returned (.bool true) := by simpa using he8
          have D8 := (D7.out.below hb8).cell (i := 0) rfl
          have B8 := Lib.hid (below_step B7.out hb8)
          have hv8 := hvl.out _ hb8
          clear hb8 hsm hvl X7 D7 z0 z1
          go_wp2_with fail
          refine Calls.mono hv8 ?_
          rintro e w9 ⟨hr9, hb9⟩
          obtain rfl := hr9.is_yes HV.out
          have B9 := Lib.hid (below_step B8.out hb9)
          clear hr9 hb9 hv8 D8
          go_wp2_with fail
          refine Calls.mono (awake_any _) ?_
          rintro e w10 ⟨rfl, hb10⟩
          have B10 := Lib.hid (below_step B9.out hb10)
          clear hb10
          go_wp2_with fail
          go_ret
          exact ⟨rfl, below_step HW3.out B10.out⟩
end Go.Proofs.Ytkpmgdhaollheaa
