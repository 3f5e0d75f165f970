/- The reference's Combine: the lists of columns and rows. -/
import Derived.Test.YtkpmgdhaollheaaGQ
import Derived.Maps.AppendAt
namespace Go.Proofs.Ytkpmgdhaollheaa
open Go.RowKit Go.Shelf

def xsF (acc : List Int) (r : Rc) : List Int := putL r.r (putL r.l acc)
def ysF (acc : List Int) (r : Rc) : List Int := putL r.h (putL r.b acc)
def xsOf (l : List Rc) : List Int := l.foldl xsF []
def ysOf (l : List Rc) : List Int := l.foldl ysF []
theorem xsOf_snoc (l : List Rc) (r : Rc) : xsOf (l ++ [r]) = xsF (xsOf l) r := by simp [xsOf]
theorem ysOf_snoc (l : List Rc) (r : Rc) : ysOf (l ++ [r]) = ysF (ysOf l) r := by simp [ysOf]

theorem snoc_ind {α : Type} {P : List α → Prop} (h0 : P []) (h1 : ∀ l a, P l → P (l ++ [a])) : ∀ l, P l := by
  intro l
  have : P l.reverse.reverse := by
    induction l.reverse with
    | nil => exact h0
    | cons a l ih => rw [List.reverse_cons]; exact h1 _ _ ih
  simpa using this
theorem xsOf_ok : ∀ l : List Rc, (xsOf l).Pairwise (· < ·) ∧ (∀ r ∈ l, r.l ∈ xsOf l ∧ r.r ∈ xsOf l) ∧ (xsOf l).length ≤ 2 * l.length :=
  snoc_ind ⟨List.Pairwise.nil, (fun r hr => by cases hr), Nat.le_refl _⟩ fun l a ⟨h1, h2, h3⟩ => by
    rw [xsOf_snoc]
    refine ⟨putL_up _ _ (putL_up _ _ h1), fun r hr => ?_, ?_⟩
    · simp only [xsF, putL_mem]
      rcases List.mem_append.1 hr with hr | hr
      · exact ⟨.inr (.inr (h2 r hr).1), .inr (.inr (h2 r hr).2)⟩
      · rw [List.mem_singleton] at hr; subst hr; exact ⟨.inr (.inl rfl), .inl rfl⟩
    · have a1 := putL_len a.l (xsOf l)
      have a2 := putL_len a.r (putL a.l (xsOf l))
      simp only [xsF, List.length_append, List.length_singleton]
      omega
theorem ysOf_ok : ∀ l : List Rc, (ysOf l).Pairwise (· < ·) ∧ (∀ r ∈ l, r.b ∈ ysOf l ∧ r.h ∈ ysOf l) ∧ (ysOf l).length ≤ 2 * l.length :=
  snoc_ind ⟨List.Pairwise.nil, (fun r hr => by cases hr), Nat.le_refl _⟩ fun l a ⟨h1, h2, h3⟩ => by
    rw [ysOf_snoc]
    refine ⟨putL_up _ _ (putL_up _ _ h1), fun r hr => ?_, ?_⟩
    · simp only [ysF, putL_mem]
      rcases List.mem_append.1 hr with hr | hr
      · exact ⟨.inr (.inr (h2 r hr).1), .inr (.inr (h2 r hr).2)⟩
      · rw [List.mem_singleton] at hr; subst hr; exact ⟨.inr (.inl rfl), .inl rfl⟩
    · have a1 := putL_len a.b (ysOf l)
      have a2 := putL_len a.h (putL a.b (ysOf l))
      simp only [ysF, List.length_append, List.length_singleton]
      omega

/-- What the loops over the rectangles keep. -/
structure XyAt (w wr : World) (u7 u8 : Value) (gb : Nat) (va vb : Value) (l : List Rc) : Prop where
  xs : OwnAt wr w.heap.size 3 1 encI u7 (xsOf l)
  ys : OwnAt wr w.heap.size 3 1 encI u8 (ysOf l)
  bx : BoxAt wr gb #[va, vb] 25
  below : Below w.heap.size w wr

/-- What the loop over the rows keeps. -/
structure CbAt (w wr : World) (v7 v8 u13 u14 : Value) (xs ys : List Int) (out last : List Rc) (k : Nat) : Prop where
  cx : OwnAt wr w.heap.size 3 1 encI v7 xs
  cy : OwnAt wr w.heap.size 3 1 encI v8 ys
  co : OwnAt wr w.heap.size 39 4 encR u13 out
  cl : OwnAt wr w.heap.size 39 4 encR u14 last
  apart : ∀ g, u13.ownBlock = some g → u14.ownBlock ≠ some g
  below : Below w.heap.size w wr
  cn : out.length ≤ k * 4000 ∧ last.length ≤ 4000
theorem CbAt.kept {w wr w' : World} {v7 v8 u13 u14 : Value} {xs ys : List Int} {out last : List Rc} {k : Nat} (h : CbAt w wr v7 v8 u13 u14 xs ys out last k) (hb : Below wr.heap.size wr w') : CbAt w w' v7 v8 u13 u14 xs ys out last k :=
  ⟨h.cx.kept hb, h.cy.kept hb, h.co.kept hb, h.cl.kept hb, h.apart, below_step h.below hb, h.cn⟩

def spR (how : Int) (a b : List Rc) (xs : List Int) (y : Int) : List Sp := spS (fun x => refK how (insideB a x y) (insideB b x y)) [] xs

theorem spS_drop (K : Int → Bool) (cur : List Sp) (xs : List Int) {c : Nat} (hc : c + 1 < xs.length) : spS K cur (xs.drop c) = spS K (if K xs[c]! = true then pushS cur (xs[c]!, xs[c + 1]!) else cur) (xs.drop (c + 1)) := by
  have e1 : xs.drop c = xs[c]! :: xs[c + 1]! :: xs.drop (c + 2) := by
    rw [List.drop_eq_getElem_cons (by omega), List.drop_eq_getElem_cons (by omega), getElem!_pos xs c (by omega), getElem!_pos xs (c + 1) (by omega)]
  have e2 : xs.drop (c + 1) = xs[c + 1]! :: xs.drop (c + 2) := by
    rw [List.drop_eq_getElem_cons (by omega), getElem!_pos xs (c + 1) (by omega)]
  rw [e1, e2]
  rfl
theorem spS_short (K : Int → Bool) (cur : List Sp) : ∀ xs : List Int, xs.length ≤ 1 → spS K cur xs = cur
  | [], _ => rfl
  | [_], _ => rfl
  | _ :: _ :: _, h => by simp at h
theorem int_cells {w : World} {B g n cap : Nat} {l : List Int} (h : OwnAt w B 3 1 encI (.slice (some ⟨g, 0, none⟩) n cap) l) (hn : n = l.length) {c : Nat} (hc : c < l.length) : w.cell? ⟨g, c, none⟩ = some (.int .i64 l[c]!) := by
  have := h.cell (fun _ => rfl) hn hc (i := 0) rfl
  simpa using this

theorem wpList_append_row_at {P : Program} (w : World) {ops : Array Oper} {rest : List Oper} {o : Oper} {a : Act} {Q : Exit → Act → World → Prop} (hgd : o.guard = none) (s x : Operand) (t : TypeId)
    (ho : o.op = .call { callee := .builtin .append, args := #[s, x], argTypes := #[t, t] })
    (base : Nat) (e : TypeId) (i : TypeInfo) (z : Value) (size bytes : Nat) (ht : P.underlying t = some (.slice e)) (hi : P.info? e = some i) (hz : i.zero = some z)
    (hsize : i.size = size) (hby : i.bytes = bytes) (hzs : z.cells.size = size) (hsz : 0 < size)
    (v : Value) (n : Nat) (xs : List Value) (hs : a.eval s = v) (hown : w.ownsRow base e size v n xs)
    (B : Nat) (v2 : Value) (m : Nat) (news : List Value) (hx : a.eval x = v2) (h2 : w.ownsRow B e size v2 m news) (h1 : ∀ u ∈ news, u.oneCell' = true)
    (h63 : n + m ≤ maxLen) (hbytes : (n + m) * bytes ≤ 140737488355328) (hbase : base ≤ w.heap.size)
    (h : ∀ v' w', w'.ownsRow base e size v' (n + m) (xs ++ news) → w.grownBy w' v.ownBlock → (v'.ownBlock = v.ownBlock ∨ v'.ownBlock = some w.heap.size) → wpList P ops Q rest (a.put o.dst v') w') : wpList P ops Q (o :: rest) a w := by
  rcases h2.2 with ⟨rfl, rfl⟩ | ⟨g, cap, cur, rfl, _⟩
  · have hn : news = [] := List.eq_nil_of_length_eq_zero (by simpa using h2.1)
    subst hn
    refine wpList_append_own_none hgd s x t ho base e i size ht hi v n xs hs hown hx ?_
    exact h v w (by simpa using hown) (World.grownBy.refl _ _) (.inl rfl)
  · exact wpList_append_own_at w hgd s x t ho base e i z size bytes ht hi hz hsize hby hzs hsz v n xs hs hown ⟨g, 0, none⟩ m cap news hx h2.1 (h2.cells rfl) h1 h63 hbytes hbase fun v' w' a b _ c => h v' w' a b c

theorem oneR (l : List Rc) : ∀ u ∈ l.flatMap encR, u.oneCell' = true := by
  intro u hu
  obtain ⟨e, _, he⟩ := List.mem_flatMap.1 hu
  simp [encR] at he
  rcases he with rfl | rfl | rfl | rfl <;> rfl

theorem CbAt.push {w wr w7 : World} {v7 v8 u13 u14 u16 u' : Value} {xs ys : List Int} {out last bnd : List Rc} {k B16 : Nat} (h : CbAt w wr v7 v8 u13 u14 xs ys out last k) (hb : OwnAt wr B16 39 4 encR u16 bnd) (hlt : ∀ g, u13.ownBlock = some g → g < B16) (hB : w.heap.size ≤ B16)
    (ho : OwnAt w7 w.heap.size 39 4 encR u' (out ++ last)) (hg : wr.grownBy w7 u13.ownBlock) (hu : u'.ownBlock = u13.ownBlock ∨ u'.ownBlock = some wr.heap.size) (hl : bnd.length ≤ 4000) : CbAt w w7 v7 v8 u' u16 xs ys (out ++ last) bnd (k + 1) := by
  have hne : u16.ownBlock = none ∨ u16.ownBlock ≠ u13.ownBlock := by
    cases hv : u16.ownBlock with
    | none => exact .inl rfl
    | some g =>
      refine .inr fun e => ?_
      have h1 := ownsRow_ge hb g hv
      have h2 := hlt g e.symm
      omega
  refine ⟨h.cx.other (by decide) hg h.co, h.cy.other (by decide) hg h.co, ho, (World.ownsRow.kept hb hg hne).mono hB, fun g hg' e => ?_, h.below.grown hg h.below.size (ownsRow_ge h.co), ?_, hl⟩
  · rcases hu with hu | hu
    · rw [hu] at hg'
      have h1 := ownsRow_ge hb g e
      have h2 := hlt g hg'
      omega
    · rw [hu] at hg'
      cases hg'
      have := (World.ownsRow.lt hb _ e).2
      omega
  · rw [List.length_append, Nat.add_mul, Nat.one_mul]
    exact Nat.add_le_add h.cn.1 h.cn.2

theorem CbAt.high {w wr w8 : World} {v7 v8 u13 u14 : Value} {xs ys : List Int} {out last m : List Rc} {k : Nat} (h : CbAt w wr v7 v8 u13 u14 xs ys out last k) (hg : wr.grownBy w8 u14.ownBlock) (ho : OwnAt w8 w.heap.size 39 4 encR u14 m) (hm : m.length = last.length) : CbAt w w8 v7 v8 u13 u14 xs ys out m (k + 1) := by
  have hne : u13.ownBlock = none ∨ u13.ownBlock ≠ u14.ownBlock := by
    cases hv : u13.ownBlock with
    | none => exact .inl rfl
    | some g => exact .inr fun e => h.apart g hv e.symm
  refine ⟨h.cx.other (by decide) hg h.cl, h.cy.other (by decide) hg h.cl, World.ownsRow.kept h.co hg hne, ho, h.apart, h.below.grown hg h.below.size (ownsRow_ge h.cl), ?_, by rw [hm]; exact h.cn.2⟩
  exact Nat.le_trans h.cn.1 (Nat.mul_le_mul_right _ (Nat.le_succ k))
theorem refStep_short (sp : Int → List Sp) (out last : List Rc) : ∀ ys : List Int, ys.length ≤ 1 → refStep sp out last ys = out ++ last
  | [], _ => rfl
  | [_], _ => rfl
  | _ :: _ :: _, h => by simp at h

theorem own_ne {w : World} {B1 B2 k1 k2 n1 n2 g1 g2 : Nat} {e1 e2 : TypeId} {v1 v2 : Value} {x1 x2 : List Value} (h1 : w.ownsRow B1 e1 k1 v1 n1 x1) (h2 : w.ownsRow B2 e2 k2 v2 n2 x2) (o1 : v1.ownBlock = some g1) (o2 : v2.ownBlock = some g2) (hne : e1 ≠ e2) : g1 ≠ g2 := by
  rintro rfl
  obtain ⟨c, fz, hc⟩ := Lib.ownsRow_kind h1 g1 o1
  obtain ⟨c', fz', hc'⟩ := Lib.ownsRow_kind h2 g1 o2
  rw [hc] at hc'
  simp at hc'
  exact hne hc'.2.1
theorem setH_step (t1 : Int) {last : List Rc} {j : Nat} (hj : j < last.length) : ((setH t1 (last.take j) ++ last.drop j).flatMap encR).set (j * 4 + 3) (.int .i64 t1) = (setH t1 (last.take (j + 1)) ++ last.drop (j + 1)).flatMap encR := by
  have hl : (setH t1 (last.take j)).length = j := by rw [setH, List.length_map, List.length_take]; omega
  have hf : ((setH t1 (last.take j)).flatMap encR).length = j * 4 := by rw [flatMap_len encR 4 encR_len, hl]
  rw [List.flatMap_append, List.set_append_right _ _ (by rw [hf]; omega), hf, show j * 4 + 3 - j * 4 = 3 by omega, List.drop_eq_getElem_cons hj, List.take_succ_eq_append_getElem hj]
  have e : setH t1 (last.take j ++ [last[j]]) = setH t1 (last.take j) ++ [⟨last[j].l, last[j].b, last[j].r, t1⟩] := by unfold setH; rw [List.map_append]; rfl
  rw [e, List.flatMap_append, List.flatMap_append, List.append_assoc]
  rfl

def preOf (a b : List Rc) (k : Nat) : List Rc := if k = 0 then [] else if k = 1 then a else a ++ b

set_option maxHeartbeats 64000000 in
set_option maxRecDepth 100000 in
theorem refCombine_any (va vb : Value) (a b : List Rc) (how : Int) (w : World) (ha : RectsAt w va a) (hb : RectsAt w vb b) (hla : a.length ≤ 1000) (hlb : b.length ≤ 1000) :
    Calls Try.prog 61 #[va, vb, .int .i64 how] w fun e w' => ∃ v', e = .returned v' ∧ OwnAt w' w.heap.size 39 4 encR v' (refL (refK how) a b (xsOf (a ++ b)) (ysOf (a ++ b))) ∧ (refL (refK how) a b (xsOf (a ++ b)) (ysOf (a ++ b))).length ≤ 100000000 ∧ Below w.heap.size w w' := by
  obtain ⟨i0, hi, hz0, hz1, hz2⟩ := info_parts info_rect
  have HA := Lib.hid ha
  have HB := Lib.hid hb
  obtain ⟨pa, ca, rfl⟩ := ha.shape
  obtain ⟨pb, cb, rfl⟩ := hb.shape
  clear ha hb
  generalize hna : a.length = na at *
  generalize hnb : b.length = nb at *
  have NA := Lib.hid hna
  have NB := Lib.hid hnb
  clear hna hnb
  go_enter Try.func61, Try.ntmps61
  go_wp2
  go_loopw [7, 8, 24] (fun u7 u8 i wr => ∃ k : Nat, k ≤ 2 ∧ i = .int .i64 k ∧ XyAt w wr u7 u8 w.heap.size (.slice pa na ca) (.slice pb nb cb) (preOf a b k)) (fun _ _ i _ => 2 - (intOf i).toNat)
  case atStart => exact ⟨0, by omega, rfl, ⟨OwnAt.nil .., OwnAt.nil .., BoxAt.new .., (Below.refl _ _).alloc (Nat.le_refl _) _⟩⟩
  case round =>
    obtain ⟨k, hk, rfl, hst⟩ := hrel
    by_cases hk2 : k < 2
    · have hk2' : (k : Int) < 2 := by omega
      obtain ⟨vm, m, pm, cm, hcell, hrm, hvm, hml, hpre, hplen⟩ : ∃ vm m pm cm, wr.cell? ⟨w.heap.size, k, none⟩ = some vm ∧ RectsAt w vm m ∧ vm = .slice pm m.length cm ∧ m.length ≤ 1000 ∧ preOf a b (k + 1) = preOf a b k ++ m ∧ (preOf a b k).length ≤ 1000 := by
        have : k = 0 ∨ k = 1 := by omega
        rcases this with rfl | rfl
        · exact ⟨.slice pa na ca, a, pa, ca, hst.bx.cell (i := 0) rfl, HA.out, by rw [NA.out], by rw [NA.out]; exact hla, rfl, by simp [preOf]⟩
        · exact ⟨.slice pb nb cb, b, pb, cb, hst.bx.cell (i := 1) rfl, HB.out, by rw [NB.out], by rw [NB.out]; exact hlb, rfl, by simp [preOf]; rw [NA.out]; exact hla⟩
      have HST := Lib.hid hst
      have HRM := Lib.hid hrm
      have HPre := Lib.hid hpre
      subst hvm
      obtain ⟨n, hn⟩ : ∃ n, n = m.length := ⟨_, rfl⟩
      rw [← hn] at hcell HRM hml
      have N := Lib.hid hn
      have hn' : (n : Int) ≤ 1000 := by omega
      clear hst hrm hpre hn
      generalize hpp : preOf a b k = pre at *
      go_wp2
      go_loopw [7, 8, 30] (fun u7 u8 i wr => ∃ j : Nat, j ≤ n ∧ i = .int .i64 j ∧ XyAt w wr u7 u8 w.heap.size (.slice pa na ca) (.slice pb nb cb) (pre ++ m.take j)) (fun _ _ i _ => n - (intOf i).toNat)
      case atStart => exact ⟨0, Nat.zero_le _, rfl, by rw [List.take_zero, List.append_nil]; exact HST.out⟩
      case round =>
        obtain ⟨j, hj, rfl, hst⟩ := hrel
        by_cases hjn : j < n
        · have hjm : j < m.length := by rw [← N.out]; exact hjn
          have hrm := HRM.out.below hst.below
          obtain ⟨p0, c0, e0, _, _, hcc⟩ := hrm
          rw [← N.out] at e0
          cases e0
          obtain ⟨b0, o0, rfl, hblt, d0, d1, d2, d3⟩ := hcc j hjm
          have hjn' : (j : Int) < (n : Int) := by omega
          have hstep : pre ++ m.take (j + 1) = (pre ++ m.take j) ++ [m[j]!] := by
            rw [List.take_succ_eq_append_getElem hjm, getElem!_pos m j hjm, List.append_assoc]
          have hnx := xsOf_snoc (pre ++ m.take j) m[j]!
          have hny := ysOf_snoc (pre ++ m.take j) m[j]!
          rw [← hstep] at hnx hny
          have hlx := (xsOf_ok (pre ++ m.take j)).2.2
          have hly := (ysOf_ok (pre ++ m.take j)).2.2
          have hll : (pre ++ m.take j).length ≤ 2000 := by rw [List.length_append, List.length_take]; omega
          have hx5 : (xsOf (pre ++ m.take j)).length ≤ 5000 := by omega
          have hy5 : (ysOf (pre ++ m.take j)).length ≤ 5000 := by omega
          obtain ⟨q7, c7, e7⟩ := hst.xs.shape
          obtain ⟨q8, c8, e8⟩ := hst.ys.shape
          have HX := Lib.hid hst.xs
          have HY := Lib.hid hst.ys
          have HBx := Lib.hid hst.bx
          have HBl := Lib.hid hst.below
          have HNX := Lib.hid hnx
          have HNY := Lib.hid hny
          unfold xsF at HNX
          unfold ysF at HNY
          have hbz := hst.below.size
          clear hcc hst hstep hnx hny hlx hly hll e7 e8
          generalize xsOf (pre ++ m.take j) = X at *
          generalize ysOf (pre ++ m.take j) = Y at *
          generalize m[j]! = r at *
          go_wp2
          have q0 : (wr.alloc (.cells #[.int .i64 r.l, .int .i64 r.b, .int .i64 r.r, .int .i64 r.h] 39)).cell? ⟨wr.heap.size, 0, none⟩ = some (.int .i64 r.l) := (BoxAt.new wr #[.int .i64 r.l, .int .i64 r.b, .int .i64 r.r, .int .i64 r.h] 39).cell (i := 0) rfl
          have q1 : (wr.alloc (.cells #[.int .i64 r.l, .int .i64 r.b, .int .i64 r.r, .int .i64 r.h] 39)).cell? ⟨wr.heap.size, 1, none⟩ = some (.int .i64 r.b) := (BoxAt.new wr #[.int .i64 r.l, .int .i64 r.b, .int .i64 r.r, .int .i64 r.h] 39).cell (i := 1) rfl
          have q2 : (wr.alloc (.cells #[.int .i64 r.l, .int .i64 r.b, .int .i64 r.r, .int .i64 r.h] 39)).cell? ⟨wr.heap.size, 2, none⟩ = some (.int .i64 r.r) := (BoxAt.new wr #[.int .i64 r.l, .int .i64 r.b, .int .i64 r.r, .int .i64 r.h] 39).cell (i := 2) rfl
          have q3 : (wr.alloc (.cells #[.int .i64 r.l, .int .i64 r.b, .int .i64 r.r, .int .i64 r.h] 39)).cell? ⟨wr.heap.size, 3, none⟩ = some (.int .i64 r.h) := (BoxAt.new wr #[.int .i64 r.l, .int .i64 r.b, .int .i64 r.r, .int .i64 r.h] 39).cell (i := 3) rfl
          have q4 : Below wr.heap.size wr (wr.alloc (.cells #[.int .i64 r.l, .int .i64 r.b, .int .i64 r.r, .int .i64 r.h] 39)) := (Below.refl _ _).alloc (Nat.le_refl _) _
          generalize wr.alloc (.cells #[.int .i64 r.l, .int .i64 r.b, .int .i64 r.r, .int .i64 r.h] 39) = w1 at *
          go_region_held3 (fun w' => w'.cell? ⟨wr.heap.size, 0, none⟩ = some (.int .i64 r.l) ∧ w'.cell? ⟨wr.heap.size, 1, none⟩ = some (.int .i64 r.b) ∧ w'.cell? ⟨wr.heap.size, 2, none⟩ = some (.int .i64 r.r) ∧ w'.cell? ⟨wr.heap.size, 3, none⟩ = some (.int .i64 r.h) ∧ Below wr.heap.size wr w') ((refine ⟨?_, ?_, ?_, ?_, ?_⟩ <;> (first | assumption | exact Below.drew (by assumption)))) (first
            | (go_at_call 82; (with_reducible refine Calls.mono (put_any u7 X r.l w.heap.size _ (HX.out.kept (by first | assumption | exact Below.drew (by assumption))) (by first | (have := (show Below wr.heap.size wr _ by assumption).size; omega) | (have := (show Below wr.heap.size wr w1 by assumption).size; simp; omega)) (by omega)) ?_); rintro e w' ⟨vx1, rfl, ho, hb⟩; (try (have HX1 := Lib.hid (HX1.out.kept hb))); (try (have HX2 := Lib.hid (HX2.out.kept hb))); (try (have HY1 := Lib.hid (HY1.out.kept hb))); (try (have HY2 := Lib.hid (HY2.out.kept hb))); have HX1 := Lib.hid ho; have k0 := cell_keep hb (show _ = some (Value.int .i64 r.l) by assumption); have k1 := cell_keep hb (show _ = some (Value.int .i64 r.b) by assumption); have k2 := cell_keep hb (show _ = some (Value.int .i64 r.r) by assumption); have k3 := cell_keep hb (show _ = some (Value.int .i64 r.h) by assumption); have kb : Below wr.heap.size wr w' := below_step (by first | assumption | exact Below.drew (by assumption)) hb; clear ho hb)
            | (go_at_call 82; (with_reducible refine Calls.mono (put_any vx1 (putL r.l X) r.r w.heap.size _ HX1.out (by first | (have := (show Below wr.heap.size wr _ by assumption).size; omega) | (have := (show Below wr.heap.size wr w1 by assumption).size; simp; omega)) (by have := putL_len r.l X; omega)) ?_); rintro e w' ⟨vx2, rfl, ho, hb⟩; (try (have HX1 := Lib.hid (HX1.out.kept hb))); (try (have HX2 := Lib.hid (HX2.out.kept hb))); (try (have HY1 := Lib.hid (HY1.out.kept hb))); (try (have HY2 := Lib.hid (HY2.out.kept hb))); have HX2 := Lib.hid ho; have k0 := cell_keep hb (show _ = some (Value.int .i64 r.l) by assumption); have k1 := cell_keep hb (show _ = some (Value.int .i64 r.b) by assumption); have k2 := cell_keep hb (show _ = some (Value.int .i64 r.r) by assumption); have k3 := cell_keep hb (show _ = some (Value.int .i64 r.h) by assumption); have kb : Below wr.heap.size wr w' := below_step (by first | assumption | exact Below.drew (by assumption)) hb; clear ho hb)
            | (go_at_call 82; (with_reducible refine Calls.mono (put_any u8 Y r.b w.heap.size _ (HY.out.kept (by first | assumption | exact Below.drew (by assumption))) (by first | (have := (show Below wr.heap.size wr _ by assumption).size; omega) | (have := (show Below wr.heap.size wr w1 by assumption).size; simp; omega)) (by omega)) ?_); rintro e w' ⟨vy1, rfl, ho, hb⟩; (try (have HX1 := Lib.hid (HX1.out.kept hb))); (try (have HX2 := Lib.hid (HX2.out.kept hb))); (try (have HY1 := Lib.hid (HY1.out.kept hb))); (try (have HY2 := Lib.hid (HY2.out.kept hb))); have HY1 := Lib.hid ho; have k0 := cell_keep hb (show _ = some (Value.int .i64 r.l) by assumption); have k1 := cell_keep hb (show _ = some (Value.int .i64 r.b) by assumption); have k2 := cell_keep hb (show _ = some (Value.int .i64 r.r) by assumption); have k3 := cell_keep hb (show _ = some (Value.int .i64 r.h) by assumption); have kb : Below wr.heap.size wr w' := below_step (by first | assumption | exact Below.drew (by assumption)) hb; clear ho hb)
            | (go_at_call 82; (with_reducible refine Calls.mono (put_any vy1 (putL r.b Y) r.h w.heap.size _ HY1.out (by first | (have := (show Below wr.heap.size wr _ by assumption).size; omega) | (have := (show Below wr.heap.size wr w1 by assumption).size; simp; omega)) (by have := putL_len r.b Y; omega)) ?_); rintro e w' ⟨vy2, rfl, ho, hb⟩; (try (have HX1 := Lib.hid (HX1.out.kept hb))); (try (have HX2 := Lib.hid (HX2.out.kept hb))); (try (have HY1 := Lib.hid (HY1.out.kept hb))); (try (have HY2 := Lib.hid (HY2.out.kept hb))); have HY2 := Lib.hid ho; have k0 := cell_keep hb (show _ = some (Value.int .i64 r.l) by assumption); have k1 := cell_keep hb (show _ = some (Value.int .i64 r.b) by assumption); have k2 := cell_keep hb (show _ = some (Value.int .i64 r.r) by assumption); have k3 := cell_keep hb (show _ = some (Value.int .i64 r.h) by assumption); have kb : Below wr.heap.size wr w' := below_step (by first | assumption | exact Below.drew (by assumption)) hb; clear ho hb)
            | fail)
          all_goals
            go_wp2
            go_roundw
            case rel => exact ⟨j + 1, by omega, by simp, ⟨by rw [HNX.out]; exact HX2.out, by rw [HNY.out]; exact HY2.out, HBx.out.below kb, below_step HBl.out kb⟩⟩
            case measure => simp [intOf]; omega
        · obtain rfl : j = n := by omega
          rw [N.out, List.take_of_length_le (Nat.le_refl _), ← HPre.out] at hst
          have HST2 := Lib.hid hst
          clear hst
          go_wp2
          go_roundw
          case rel => exact ⟨k + 1, by omega, by simp, HST2.out⟩
          case measure => simp [intOf]; omega
    · obtain rfl : k = 2 := by omega
      have hpre2 : preOf a b 2 = a ++ b := rfl
      rw [hpre2] at hst
      obtain ⟨x1, x2, x3⟩ := xsOf_ok (a ++ b)
      obtain ⟨y1, y2, y3⟩ := ysOf_ok (a ++ b)
      have hll : (a ++ b).length ≤ 2000 := by rw [List.length_append, NA.out, NB.out]; omega
      have HRef : Hid (refL (refK how) a b (xsOf (a ++ b)) (ysOf (a ++ b)) = refStep (spR how a b (xsOf (a ++ b))) [] [] (ysOf (a ++ b))) := Lib.hid rfl
      obtain ⟨R, hR⟩ : ∃ R, R = refL (refK how) a b (xsOf (a ++ b)) (ysOf (a ++ b)) := ⟨_, rfl⟩
      rw [← hR] at HRef
      have HRl := Lib.hid hR.symm
      clear hR
      have hx4 : (xsOf (a ++ b)).length ≤ 4000 := by omega
      have hy4 : (ysOf (a ++ b)).length ≤ 4000 := by omega
      obtain ⟨p7, c7, rfl⟩ := hst.xs.shape
      obtain ⟨p8, c8, rfl⟩ := hst.ys.shape
      have HX := Lib.hid hst.xs
      have HY := Lib.hid hst.ys
      have HBl := Lib.hid hst.below
      clear hst x1 x2 x3 y1 y2 y3 hll hpre2
      generalize hxs : xsOf (a ++ b) = xs at HRef hx4 HX
      generalize hys : ysOf (a ++ b) = ys at HRef hy4 HY
      clear hxs hys
      obtain ⟨nx, hnx⟩ : ∃ nx, nx = xs.length := ⟨_, rfl⟩
      obtain ⟨ny, hny⟩ : ∃ ny, ny = ys.length := ⟨_, rfl⟩
      rw [← hnx] at hx4 ⊢
      rw [← hny] at hy4 ⊢
      rw [← hnx] at HX
      rw [← hny] at HY
      have NX := Lib.hid hnx
      have NY := Lib.hid hny
      have hx4' : (nx : Int) ≤ 4000 := by omega
      have hy4' : (ny : Int) ≤ 4000 := by omega
      have hw0 : w.heap.size ≤ wr.heap.size := HBl.out.size
      clear hnx hny
      go_wp2
      go_loopw [13, 14, 15] (fun u13 u14 i w3 => ∃ (k : Nat) (out last : List Rc), (k = 0 ∨ k + 1 ≤ ny) ∧ i = .int .i64 k ∧ CbAt w w3 (.slice p7 nx c7) (.slice p8 ny c8) u13 u14 xs ys out last k ∧ refStep (spR how a b xs) out last (ys.drop k) = R) (fun _ _ i _ => ny - (intOf i).toNat)
      case atStart => exact ⟨0, [], [], .inl rfl, rfl, ⟨HX.out, HY.out, OwnAt.nil .., OwnAt.nil .., (fun g h => by simp [Value.ownBlock] at h), HBl.out, ⟨Nat.zero_le _, Nat.zero_le _⟩⟩, HRef.out.symm⟩
      case round =>
        obtain ⟨k, out, last, hk, rfl, hst, href⟩ := hrel
        by_cases hkn : k + 1 < ny
        · have hky : k + 1 < ys.length := by rw [← NY.out]; exact hkn
          obtain ⟨g8, cap8, e8, _, hg8, _⟩ := hst.cy.form (by omega)
          rw [← NY.out] at e8
          cases e8
          have y0 := int_cells hst.cy NY.out (show k < ys.length by omega)
          have y1 := int_cells hst.cy NY.out hky
          have hkn' : (k : Int) + 1 < (ny : Int) := by omega
          have hk0 : (0 : Int) ≤ (k : Int) := by omega
          have hk1 : (k : Int) < (ny : Int) := by omega
          obtain ⟨p13, c13, rfl⟩ := hst.co.shape
          obtain ⟨p14, c14, rfl⟩ := hst.cl.shape
          have hdrop : ys.drop k = ys[k]! :: ys[k + 1]! :: ys.drop (k + 2) := by
            rw [List.drop_eq_getElem_cons (by omega), List.drop_eq_getElem_cons (by omega), getElem!_pos ys k (by omega), getElem!_pos ys (k + 1) (by omega)]
          have hdrop2 : ys.drop (k + 1) = ys[k + 1]! :: ys.drop (k + 2) := by
            rw [List.drop_eq_getElem_cons (by omega), getElem!_pos ys (k + 1) (by omega)]
          rw [hdrop, refStep, ← hdrop2] at href
          have HRf := Lib.hid href
          have HST := Lib.hid hst
          clear hst href hdrop hdrop2
          generalize ys[k]! = t0 at *
          generalize ys[k + 1]! = t1 at *
          generalize hwk : wr = wk at *
          go_wp2
          go_loopw [16, 17] (fun u16 i w4 => ∃ (c : Nat) (cur : List Sp), (c = 0 ∨ c + 1 ≤ nx) ∧ i = .int .i64 c ∧ OwnAt w4 wk.heap.size 39 4 encR u16 (cur.map (mkR t0 t1)) ∧ spS (fun x => refK how (insideB a x t0) (insideB b x t0)) cur (xs.drop c) = spR how a b xs t0 ∧ cur.length ≤ c ∧ Below wk.heap.size wk w4) (fun _ i _ => nx - (intOf i).toNat)
          case atStart => exact ⟨0, [], .inl rfl, rfl, OwnAt.nil .., rfl, Nat.le_refl _, Below.refl _ _⟩
          case round =>
            obtain ⟨c, cur, hc, rfl, hown, hsp, hcl, hb4⟩ := hrel
            obtain ⟨p16, c16, rfl⟩ := hown.shape
            have hcur : (cur.map (mkR t0 t1)).length = cur.length := List.length_map ..
            rw [hcur] at hown ⊢
            have hcl4 : cur.length ≤ 4000 := by omega
            have hc0 : (0 : Int) ≤ (c : Int) := by omega
            by_cases hcn : c + 1 < nx
            · have hcx : c + 1 < xs.length := by rw [← NX.out]; exact hcn
              have hst4 := HST.out.kept hb4
              obtain ⟨g7, cap7, e7, _, hg7, _⟩ := HST.out.cx.form (by omega)
              rw [← NX.out] at e7
              cases e7
              have x0 := int_cells hst4.cx NX.out (show c < xs.length by omega)
              have x1 := int_cells hst4.cx NX.out hcx
              have z0 := cell_keep hb4 y0
              have z1 := cell_keep hb4 y1
              have hcn' : (c : Int) + 1 < (nx : Int) := by omega
              have hc1 : (c : Int) < (nx : Int) := by omega
              have hc2 : (0 : Int) ≤ (c : Int) + 1 := by omega
              have hk2 : (0 : Int) ≤ (k : Int) + 1 := by omega
              rw [spS_drop _ _ _ hcx] at hsp
              have HSp := Lib.hid hsp
              have HOw := Lib.hid hown
              have HB4 := Lib.hid hb4
              have HBw := Lib.hid hst4.below
              have hbz := hb4.size
              clear hst4 hown hsp hb4 hcur
              generalize xs[c]! = s0 at *
              generalize xs[c + 1]! = s1 at *
              generalize hia : insideB a s0 t0 = ia at *
              generalize hib : insideB b s0 t0 = ib at *
              have HIa := Lib.hid (fun (W : World) (hb : Below wr.heap.size wr W) => refInside_any (.slice pa na ca) a s0 t0 W (HA.out.below (below_step HBw.out hb)))
              have HIb := Lib.hid (fun (W : World) (hb : Below wr.heap.size wr W) => refInside_any (.slice pb nb cb) b s0 t0 W (HB.out.below (below_step HBw.out hb)))
              rw [hia] at HIa
              rw [hib] at HIb
              have qb : Below wr.heap.size wr wr := Below.refl _ _
              by_cases hkk : refK how ia ib = true
              · rw [if_pos hkk] at HSp
                have HK := Lib.hid (fun W => refKeep_any ia ib how W)
                rw [hkk] at HK
                go_wp2
                go_region_held3 (fun w' => w'.cell? ⟨g7, c, none⟩ = some (.int .i64 s0) ∧ w'.cell? ⟨g8, k, none⟩ = some (.int .i64 t0) ∧ Below wr.heap.size wr w') ((refine ⟨?_, ?_, ?_⟩ <;> (first | assumption | exact Below.drew (by assumption)))) (first
                  | (go_at_call 68; (with_reducible refine Calls.mono (HIa.out _ (by first | assumption | exact Below.drew (by assumption))) ?_); rintro e w' ⟨rfl, hb⟩; have j0 := cell_keep hb (show _ = some (Value.int .i64 s0) by assumption); have j1 := cell_keep hb (show _ = some (Value.int .i64 t0) by assumption); have jb : Below wr.heap.size wr w' := below_step (by first | assumption | exact Below.drew (by assumption)) hb; clear hb; (try clear k0 k1 kb); have k0 := j0; have k1 := j1; have kb := jb; clear j0 j1 jb)
                  | (go_at_call 68; (with_reducible refine Calls.mono (HIb.out _ (by first | assumption | exact Below.drew (by assumption))) ?_); rintro e w' ⟨rfl, hb⟩; have j0 := cell_keep hb (show _ = some (Value.int .i64 s0) by assumption); have j1 := cell_keep hb (show _ = some (Value.int .i64 t0) by assumption); have jb : Below wr.heap.size wr w' := below_step (by first | assumption | exact Below.drew (by assumption)) hb; clear hb; (try clear k0 k1 kb); have k0 := j0; have k1 := j1; have kb := jb; clear j0 j1 jb)
                  | (go_at_call 83; (with_reducible refine Calls.mono (HK.out _) ?_); rintro e w' ⟨rfl, rfl⟩)
                  | fail)
                · have x1' := cell_keep kb x1
                  have z1' := cell_keep kb z1
                  have HO2 := Lib.hid (HOw.out.kept kb)
                  have HB5 := Lib.hid (below_step HB4.out kb)
                  clear kb qb x0 x1 z0 z1 y0 y1 HK hkk
                  generalize hw5 : w' = w5 at *
                  clear hw5
                  rcases List.eq_nil_or_concat cur with rfl | ⟨cc, s, rfl⟩
                  · simp only [List.length_nil]
                    simp only [List.length_nil, List.map_nil] at HO2
                    unfold OwnAt at HO2
                    simp only [List.length_nil, List.flatMap_nil] at HO2
                    go_wp2
                    go_quiet (fail)
                    go_wp2
                    have k0 : (w5.drewN nq).cell? ⟨g7, c, none⟩ = some (.int .i64 s0) := k0
                    have x1' : (w5.drewN nq).cell? ⟨g7, c + 1, none⟩ = some (.int .i64 s1) := x1'
                    have k1 : (w5.drewN nq).cell? ⟨g8, k, none⟩ = some (.int .i64 t0) := k1
                    have z1' : (w5.drewN nq).cell? ⟨g8, k + 1, none⟩ = some (.int .i64 t1) := z1'
                    have wv1 : IntKind.i64.wrap ((c : Int) + 1) = (c : Int) + 1 := by rw [IntKind.wrap_i64]; omega
                    have wv2 : IntKind.i64.wrap ((k : Int) + 1) = (k : Int) + 1 := by rw [IntKind.wrap_i64]; omega
                    have r5 : Below wk.heap.size wk (w5.drewN nq) := below_drewN HB5.out nq
                    have HO3 : Hid ((w5.drewN nq).ownsRow wk.heap.size 39 4 (.slice p16 0 c16) 0 []) := Lib.hid (own_drewN HO2.out nq)
                    generalize w5.drewN nq = w6 at *
                    have HAp := Lib.hid (show ((w6.alloc (.cells #[.int .i64 s0, .int .i64 t0, .int .i64 s1, .int .i64 t1] 39)).drew).ownsRow wk.heap.size 39 4 (.slice p16 0 c16) 0 [] from World.ownsRow.alloc HO3.out _)
                    have HNw := Lib.hid (show ∀ j u, ([.int .i64 s0, .int .i64 t0, .int .i64 s1, .int .i64 t1] : List Value)[j]? = some u → ((w6.alloc (.cells #[.int .i64 s0, .int .i64 t0, .int .i64 s1, .int .i64 t1] 39)).drew).cell? ((⟨w6.heap.size, 0, none⟩ : Addr).add j) = some u from fun j u hu => (news_at (w := w6) (cs := #[.int .i64 s0, .int .i64 t0, .int .i64 s1, .int .i64 t1]) (t := 39) rfl j u hu : (w6.alloc (.cells #[.int .i64 s0, .int .i64 t0, .int .i64 s1, .int .i64 t1] 39)).cell? _ = some u))
                    have r0 : ((w6.alloc (.cells #[.int .i64 s0, .int .i64 t0, .int .i64 s1, .int .i64 t1] 39)).drew).cell? ⟨g7, c, none⟩ = some (.int .i64 s0) := (World.grownBy_alloc w6 _ none).cell k0 (by simp)
                    have r1 : ((w6.alloc (.cells #[.int .i64 s0, .int .i64 t0, .int .i64 s1, .int .i64 t1] 39)).drew).cell? ⟨g7, c + 1, none⟩ = some (.int .i64 s1) := (World.grownBy_alloc w6 _ none).cell x1' (by simp)
                    have r2 : ((w6.alloc (.cells #[.int .i64 s0, .int .i64 t0, .int .i64 s1, .int .i64 t1] 39)).drew).cell? ⟨g8, k, none⟩ = some (.int .i64 t0) := (World.grownBy_alloc w6 _ none).cell k1 (by simp)
                    have r3 : ((w6.alloc (.cells #[.int .i64 s0, .int .i64 t0, .int .i64 s1, .int .i64 t1] 39)).drew).cell? ⟨g8, k + 1, none⟩ = some (.int .i64 t1) := (World.grownBy_alloc w6 _ none).cell z1' (by simp)
                    have r4 : Below wk.heap.size wk ((w6.alloc (.cells #[.int .i64 s0, .int .i64 t0, .int .i64 s1, .int .i64 t1] 39)).drew) := (r5.alloc r5.size _).drew
                    have HG7 := Lib.hid (show ∀ (w7 : World) row, ((w6.alloc (.cells #[.int .i64 s0, .int .i64 t0, .int .i64 s1, .int .i64 t1] 39)).drew).grownBy w7 row → (∀ g, row = some g → wk.heap.size ≤ g) → w7.cell? ⟨g7, c, none⟩ = some (.int .i64 s0) ∧ w7.cell? ⟨g7, c + 1, none⟩ = some (.int .i64 s1) ∧ w7.cell? ⟨g8, k, none⟩ = some (.int .i64 t0) ∧ w7.cell? ⟨g8, k + 1, none⟩ = some (.int .i64 t1) from fun w7 row hg hr => by
                      have n7 : some g7 ≠ row := fun e => by have := hr g7 e.symm; omega
                      have n8 : some g8 ≠ row := fun e => by have := hr g8 e.symm; omega
                      exact ⟨hg.cell r0 n7, hg.cell r1 n7, hg.cell r2 n8, hg.cell r3 n8⟩)
                    go_region_held3 (fun w' => w'.cell? ⟨g7, c, none⟩ = some (.int .i64 s0) ∧ w'.cell? ⟨g7, c + 1, none⟩ = some (.int .i64 s1) ∧ w'.cell? ⟨g8, k, none⟩ = some (.int .i64 t0) ∧ w'.cell? ⟨g8, k + 1, none⟩ = some (.int .i64 t1) ∧ Below wk.heap.size wk w') (first | (refine ⟨?_, ?_, ?_, ?_, ?_⟩ <;> (first | assumption | exact Below.drew (by assumption))) | fail) (first
                      | (refine step_append_b _ (by rfl) _ _ _ (by rfl) wk (by first | assumption | exact Below.drew (by assumption)) 39 i0 _ 4 32 Try.underlying25 hi hz0 hz1 hz2 rfl (by decide) (.slice p16 0 c16) 0 [] (by rfl) HAp.out (.slice (some ⟨w6.heap.size, 0, none⟩) 1 1) 1 [.int .i64 s0, .int .i64 t0, .int .i64 s1, .int .i64 t1] (by rfl) (.inr ⟨_, _, rfl, HNw.out⟩) rfl (List.all_eq_true.1 (by rfl)) (by unfold maxLen; omega) (by omega) ?_; intro v6 w7 hown6 hgr6 kb6; obtain ⟨v0', v1', v2', v3'⟩ := HG7.out _ _ hgr6 (ownsRow_ge HAp.out))
                      | fail)
                    go_wp2
                    refine ⟨?_, ?_⟩
                    · repeat apply Exists.intro
                      refine ⟨?_, rfl⟩
                      exact ⟨c + 1, [(s0, s1)], .inr (by omega), by simp, hown6, HSp.out, by simp, kb6⟩
                    · simp [intOf]; omega
                  · rw [List.concat_eq_append] at *
                    obtain ⟨m, hm⟩ : ∃ m, m = cc.length := ⟨_, rfl⟩
                    have hcl7 : (cc ++ [s]).length = m + 1 := by rw [List.length_append, hm]; rfl
                    rw [hcl7] at hcl4 HO2 ⊢
                    obtain ⟨g16, cap16, e16, hB16, hg16, _⟩ := OwnAt.form HO2.out (by rw [List.length_map]; simp)
                    rw [List.length_map, List.length_append] at e16
                    rw [show cc.length + [s].length = m + 1 by rw [hm]; rfl] at e16
                    cases e16
                    have hM := Lib.hid hm
                    have hmi : (0 : Int) ≤ (m : Int) := by omega
                    have hmi2 : (m : Int) < (m : Int) + 1 := by omega
                    have hml : (cc.map (mkR t0 t1)).length = m := by rw [List.length_map, hm]
                    have b2 : w5.cell? ⟨g16, m * 4 + 2, none⟩ = some (.int .i64 s.2) := by
                      have := OwnAt.cell HO2.out (fun _ => rfl) (by rw [List.length_map, List.length_append, hm]; rfl) (j := m) (by rw [List.length_map, List.length_append, hm]; simp) (i := 2) (u := .int .i64 s.2) (by
                        rw [List.map_append, getElem!_pos _ _ (by rw [List.length_append, hml]; simp), List.getElem_append_right (by rw [hml]; exact Nat.le_refl _)]
                        simp [hml, encR, mkR])
                      exact this
                    have hHO : w5.ownsRow wk.heap.size 39 4 (.slice (some ⟨g16, 0, none⟩) (m + 1) c16) (m + 1) (((cc ++ [s]).map (mkR t0 t1)).flatMap encR) := by
                      have := HO2.out
                      unfold OwnAt at this
                      rw [List.length_map, List.length_append, show cc.length + [s].length = m + 1 by rw [hm]; rfl] at this
                      exact this
                    have b2f : w5.frozen? ⟨g16, m * 4 + 2, none⟩ = false := hHO.frozenAt _
                    have hset : (((cc ++ [s]).map (mkR t0 t1)).flatMap encR).set (m * 4 + 2) (.int .i64 s1) = ((cc ++ [(s.1, s1)]).map (mkR t0 t1)).flatMap encR := by
                      rw [List.map_append, List.map_append, List.flatMap_append, List.flatMap_append, List.set_append_right _ _ (by rw [flatMap_len encR 4 encR_len, hml]; omega), flatMap_len encR 4 encR_len, hml]
                      have : m * 4 + 2 - m * 4 = 2 := by omega
                      rw [this]; rfl
                    obtain ⟨L16, hL16⟩ : ∃ L16, L16 = ((cc ++ [s]).map (mkR t0 t1)).flatMap encR := ⟨_, rfl⟩
                    rw [← hL16] at hHO hset
                    have HO2 := Lib.hid hHO
                    have HSet := Lib.hid hset
                    have HL16 := Lib.hid hL16
                    clear hm hml hHO hset hL16
                    by_cases he : s.2 = s0
                    · have HPu := Lib.hid (show pushS (cc ++ [s]) (s0, s1) = cc ++ [(s.1, s1)] by rw [pushS_snoc, if_pos he])
                      go_wp2
                      go_quiet (fail)
                      go_wp2
                      obtain ⟨o1, o2⟩ := (own_drewN HO2.out nq).stored (m * 4 + 2) (.int .i64 s1)
                      rw [HSet.out] at o1
                      refine ⟨?_, ?_⟩
                      · repeat apply Exists.intro
                        refine ⟨?_, rfl⟩
                        exact ⟨c + 1, cc ++ [(s.1, s1)], .inr (by omega), by simp, (show OwnAt _ _ _ _ _ _ _ from by
                          unfold OwnAt
                          rw [List.length_map, List.length_append, show cc.length + [(s.1, s1)].length = m + 1 by rw [← hM.out]; rfl]
                          exact o1), by rw [← HPu.out]; exact HSp.out, by rw [List.length_append, ← hM.out]; simp; omega, (below_drewN HB5.out nq).setCell hB16 _⟩
                      · simp [intOf]; omega
                    · have HPu := Lib.hid (show pushS (cc ++ [s]) (s0, s1) = cc ++ [s, (s0, s1)] by rw [pushS_snoc, if_neg he])
                      have he' : (s.2 == s0) = false := beq_eq_false_iff_ne.2 he
                      go_wp2
                      go_quiet (fail)
                      go_wp2
                      have k0 : (w5.drewN nq).cell? ⟨g7, c, none⟩ = some (.int .i64 s0) := k0
                      have x1' : (w5.drewN nq).cell? ⟨g7, c + 1, none⟩ = some (.int .i64 s1) := x1'
                      have k1 : (w5.drewN nq).cell? ⟨g8, k, none⟩ = some (.int .i64 t0) := k1
                      have z1' : (w5.drewN nq).cell? ⟨g8, k + 1, none⟩ = some (.int .i64 t1) := z1'
                      have wv1 : IntKind.i64.wrap ((c : Int) + 1) = (c : Int) + 1 := by rw [IntKind.wrap_i64]; omega
                      have wv2 : IntKind.i64.wrap ((k : Int) + 1) = (k : Int) + 1 := by rw [IntKind.wrap_i64]; omega
                      have r5 : Below wk.heap.size wk (w5.drewN nq) := below_drewN HB5.out nq
                      have HO3 : Hid ((w5.drewN nq).ownsRow wk.heap.size 39 4 (.slice (some ⟨g16, 0, none⟩) (m + 1) c16) (m + 1) L16) := Lib.hid (own_drewN HO2.out nq)
                      generalize w5.drewN nq = w6 at *
                      have HAp := Lib.hid (show ((w6.alloc (.cells #[.int .i64 s0, .int .i64 t0, .int .i64 s1, .int .i64 t1] 39)).drew).ownsRow wk.heap.size 39 4 (.slice (some ⟨g16, 0, none⟩) (m + 1) c16) (m + 1) L16 from World.ownsRow.alloc HO3.out _)
                      have HNw := Lib.hid (show ∀ j u, ([.int .i64 s0, .int .i64 t0, .int .i64 s1, .int .i64 t1] : List Value)[j]? = some u → ((w6.alloc (.cells #[.int .i64 s0, .int .i64 t0, .int .i64 s1, .int .i64 t1] 39)).drew).cell? ((⟨w6.heap.size, 0, none⟩ : Addr).add j) = some u from fun j u hu => (news_at (w := w6) (cs := #[.int .i64 s0, .int .i64 t0, .int .i64 s1, .int .i64 t1]) (t := 39) rfl j u hu : (w6.alloc (.cells #[.int .i64 s0, .int .i64 t0, .int .i64 s1, .int .i64 t1] 39)).cell? _ = some u))
                      have r0 : ((w6.alloc (.cells #[.int .i64 s0, .int .i64 t0, .int .i64 s1, .int .i64 t1] 39)).drew).cell? ⟨g7, c, none⟩ = some (.int .i64 s0) := (World.grownBy_alloc w6 _ none).cell k0 (by simp)
                      have r1 : ((w6.alloc (.cells #[.int .i64 s0, .int .i64 t0, .int .i64 s1, .int .i64 t1] 39)).drew).cell? ⟨g7, c + 1, none⟩ = some (.int .i64 s1) := (World.grownBy_alloc w6 _ none).cell x1' (by simp)
                      have r2 : ((w6.alloc (.cells #[.int .i64 s0, .int .i64 t0, .int .i64 s1, .int .i64 t1] 39)).drew).cell? ⟨g8, k, none⟩ = some (.int .i64 t0) := (World.grownBy_alloc w6 _ none).cell k1 (by simp)
                      have r3 : ((w6.alloc (.cells #[.int .i64 s0, .int .i64 t0, .int .i64 s1, .int .i64 t1] 39)).drew).cell? ⟨g8, k + 1, none⟩ = some (.int .i64 t1) := (World.grownBy_alloc w6 _ none).cell z1' (by simp)
                      have r4 : Below wk.heap.size wk ((w6.alloc (.cells #[.int .i64 s0, .int .i64 t0, .int .i64 s1, .int .i64 t1] 39)).drew) := (r5.alloc r5.size _).drew
                      have HG7 := Lib.hid (show ∀ (w7 : World) row, ((w6.alloc (.cells #[.int .i64 s0, .int .i64 t0, .int .i64 s1, .int .i64 t1] 39)).drew).grownBy w7 row → (∀ g, row = some g → wk.heap.size ≤ g) → w7.cell? ⟨g7, c, none⟩ = some (.int .i64 s0) ∧ w7.cell? ⟨g7, c + 1, none⟩ = some (.int .i64 s1) ∧ w7.cell? ⟨g8, k, none⟩ = some (.int .i64 t0) ∧ w7.cell? ⟨g8, k + 1, none⟩ = some (.int .i64 t1) from fun w7 row hg hr => by
                        have n7 : some g7 ≠ row := fun e => by have := hr g7 e.symm; omega
                        have n8 : some g8 ≠ row := fun e => by have := hr g8 e.symm; omega
                        exact ⟨hg.cell r0 n7, hg.cell r1 n7, hg.cell r2 n8, hg.cell r3 n8⟩)
                      go_region_held3 (fun w' => w'.cell? ⟨g7, c, none⟩ = some (.int .i64 s0) ∧ w'.cell? ⟨g7, c + 1, none⟩ = some (.int .i64 s1) ∧ w'.cell? ⟨g8, k, none⟩ = some (.int .i64 t0) ∧ w'.cell? ⟨g8, k + 1, none⟩ = some (.int .i64 t1) ∧ Below wk.heap.size wk w') (first | (refine ⟨?_, ?_, ?_, ?_, ?_⟩ <;> (first | assumption | exact Below.drew (by assumption))) | fail) (first
                        | (refine step_append_b _ (by rfl) _ _ _ (by rfl) wk (by first | assumption | exact Below.drew (by assumption)) 39 i0 _ 4 32 Try.underlying25 hi hz0 hz1 hz2 rfl (by decide) (.slice (some ⟨g16, 0, none⟩) (m + 1) c16) (m + 1) L16 (by rfl) HAp.out (.slice (some ⟨w6.heap.size, 0, none⟩) 1 1) 1 [.int .i64 s0, .int .i64 t0, .int .i64 s1, .int .i64 t1] (by rfl) (.inr ⟨_, _, rfl, HNw.out⟩) rfl (List.all_eq_true.1 (by rfl)) (by unfold maxLen; omega) (by omega) ?_; intro v6 w7 hown6 hgr6 kb6; obtain ⟨v0', v1', v2', v3'⟩ := HG7.out _ _ hgr6 (ownsRow_ge HAp.out))
                        | fail)
                      go_wp2
                      refine ⟨?_, ?_⟩
                      · repeat apply Exists.intro
                        refine ⟨?_, rfl⟩
                        exact ⟨c + 1, cc ++ [s, (s0, s1)], .inr (by omega), by simp, (show OwnAt _ _ _ _ _ _ _ from by
                          unfold OwnAt
                          rw [List.length_map, List.length_append, show cc.length + [s, (s0, s1)].length = m + 1 + 1 by rw [← hM.out]; rfl]
                          have e1 : (cc ++ [s, (s0, s1)]).map (mkR t0 t1) = (cc ++ [s]).map (mkR t0 t1) ++ [mkR t0 t1 (s0, s1)] := by simp
                          rw [e1, List.flatMap_append, ← HL16.out]
                          exact hown6), by rw [← HPu.out]; exact HSp.out, by rw [List.length_append, ← hM.out]; simp; omega, kb6⟩
                      · simp [intOf]; omega
              · have hkk' : refK how ia ib = false := by simpa using hkk
                rw [if_neg hkk] at HSp
                have HK := Lib.hid (fun W => refKeep_any ia ib how W)
                rw [hkk'] at HK
                clear hkk
                go_wp2
                go_region_held3 (fun w' => w'.cell? ⟨g7, c, none⟩ = some (.int .i64 s0) ∧ w'.cell? ⟨g8, k, none⟩ = some (.int .i64 t0) ∧ Below wr.heap.size wr w') ((refine ⟨?_, ?_, ?_⟩ <;> (first | assumption | exact Below.drew (by assumption)))) (first
                  | (go_at_call 68; (with_reducible refine Calls.mono (HIa.out _ (by first | assumption | exact Below.drew (by assumption))) ?_); rintro e w' ⟨rfl, hb⟩; have j0 := cell_keep hb (show _ = some (Value.int .i64 s0) by assumption); have j1 := cell_keep hb (show _ = some (Value.int .i64 t0) by assumption); have jb : Below wr.heap.size wr w' := below_step (by first | assumption | exact Below.drew (by assumption)) hb; clear hb; (try clear k0 k1 kb); have k0 := j0; have k1 := j1; have kb := jb; clear j0 j1 jb)
                  | (go_at_call 68; (with_reducible refine Calls.mono (HIb.out _ (by first | assumption | exact Below.drew (by assumption))) ?_); rintro e w' ⟨rfl, hb⟩; have j0 := cell_keep hb (show _ = some (Value.int .i64 s0) by assumption); have j1 := cell_keep hb (show _ = some (Value.int .i64 t0) by assumption); have jb : Below wr.heap.size wr w' := below_step (by first | assumption | exact Below.drew (by assumption)) hb; clear hb; (try clear k0 k1 kb); have k0 := j0; have k1 := j1; have kb := jb; clear j0 j1 jb)
                  | (go_at_call 83; (with_reducible refine Calls.mono (HK.out _) ?_); rintro e w' ⟨rfl, rfl⟩)
                  | fail)
                all_goals
                  have HO2 := Lib.hid (HOw.out.kept kb)
                  have HB5 := Lib.hid (below_step HB4.out kb)
                  clear kb qb x0 x1 z0 z1 y0 y1 HK
                  go_wp2
                  refine ⟨?_, ?_⟩
                  · repeat apply Exists.intro
                    refine ⟨?_, rfl⟩
                    exact ⟨c + 1, cur, .inr (by omega), by simp, HO2.out, HSp.out, by omega, HB5.out⟩
                  · simp [intOf]; omega
            · rw [spS_short _ _ _ (by rw [List.length_drop, ← NX.out]; omega)] at hsp
              have hst4 := HST.out.kept hb4
              have hlt13 : ∀ g, (Value.slice p13 out.length c13).ownBlock = some g → g < wk.heap.size := fun g hg => (World.ownsRow.lt HST.out.co g hg).2
              have z0 := cell_keep hb4 y0
              have z1 := cell_keep hb4 y1
              rw [← hsp] at HRf
              have HBnd := Lib.hid hown
              have HCb := Lib.hid hst4
              have HLt := Lib.hid hlt13
              have hwkz := HST.out.below.size
              have hwk4 := hb4.size
              have hkB := hst4.cn
              have hcn' : ¬ ((c : Int) + 1 < (nx : Int)) := by omega
              have hc9 : (c : Int) ≤ 4000 := by omega
              have hbl : (cur.map (mkR t0 t1)).length ≤ 4000 := by rw [hcur]; exact hcl4
              clear hsp hst4 hown hb4 y0 y1 hlt13 HST
              generalize cur.map (mkR t0 t1) = bnd at *
              generalize hnb : cur.length = nb at *
              have hk4 : k * 4000 ≤ 16000000 := Nat.le_trans (Nat.mul_le_mul_right 4000 (show k ≤ 4000 by omega)) (by decide)
              have hco := HCb.out.co
              have hcl := HCb.out.cl
              unfold OwnAt at hco hcl
              have HOne := Lib.hid (oneR last)
              have HFin := Lib.hid (show ∀ (v9 : Value) (w9 : World), w9.ownsRow w.heap.size 39 4 v9 (out.length + last.length) (out.flatMap encR ++ last.flatMap encR) → OwnAt w9 w.heap.size 39 4 encR v9 (out ++ last) from fun v9 w9 h => by
                unfold OwnAt
                rw [List.length_append, List.flatMap_append]
                exact h)
              have hno1 : out.length ≤ 16000000 := by omega
              have hnl1 := hkB.2
              clear hkB
              have HSmL := Lib.hid (fun q => refSame_any (.slice p14 last.length c14) (.slice p16 nb c16) last bnd (wr.drewN q) ((OwnAt.rd (own_drewN HCb.out.cl q)) encR_len) ((OwnAt.rd (own_drewN HBnd.out q)) encR_len) (by omega) (by omega))
              rcases List.eq_nil_or_concat last with hlast | ⟨_, _, hlast⟩
              · subst hlast
                rw [if_neg (by simp)] at HRf
                generalize hxo : out.flatMap encR = xo at hco HFin
                generalize hno : out.length = no at *
                simp only [List.length_nil, List.flatMap_nil] at hcl HOne HFin ⊢
                obtain ⟨nl, hnl⟩ : ∃ nl : Nat, nl = 0 := ⟨0, rfl⟩
                obtain ⟨xl, hxl⟩ : ∃ xl : List Value, xl = [] := ⟨[], rfl⟩
                subst hnl hxl
                go_wp2
                go_quiet (fail)
                go_wp2_with (first | (at_builtin; refine wpList_append_row_at _ rfl _ _ 25 rfl w.heap.size 39 i0 _ 4 32 Try.underlying25 hi hz0 hz1 hz2 rfl (by decide) _ no xo rfl (own_drewN hco nq) w.heap.size _ 0 [] rfl (own_drewN hcl nq) HOne.out ?c3 ?c4 ?c5 ?_))
                case c3 => unfold maxLen; omega
                case c4 => omega
                case c5 => show w.heap.size ≤ wr.heap.size; omega
                intro v9 w9 hown9 hgr9 hu9
                have HCb2 := Lib.hid ((HCb.out.kept (below_drewN (Below.refl _ _) nq)).push (B16 := wk.heap.size) (own_drewN HBnd.out nq) HLt.out hwkz (HFin.out _ _ (by simpa using hown9)) hgr9 hu9 hbl)
                clear hown9 hgr9 hu9 hco hcl
                go_wp2
                refine ⟨?_, ?_⟩
                · repeat apply Exists.intro
                  refine ⟨?_, rfl⟩
                  exact ⟨k + 1, out ++ [], bnd, .inr (by omega), by simp, HCb2.out, HRf.out⟩
                · simp [intOf]; omega
              · have hlne : last ≠ [] := by rw [hlast]; simp
                clear hlast
                obtain ⟨g14, cap14, e14, _, hg14, _⟩ := HCb.out.cl.form (List.length_pos_iff.2 hlne)
                cases e14
                have h14 : wr.cell? ⟨g14, 3, none⟩ = some (.int .i64 (lastH last)) := by
                  cases last with
                  | nil => exact absurd rfl hlne
                  | cons r0 rest =>
                    have h := HCb.out.cl.cell encR_len rfl (j := 0) (by simp) (i := 3) rfl
                    simp only [Nat.zero_mul, Nat.zero_add] at h
                    exact h
                have hlp : 0 < last.length := List.length_pos_iff.2 hlne
                generalize hlh : lastH last = lh at *
                generalize hsb : sameB last bnd = sb at *
                have HSmL := Lib.hid (fun q => Calls.quiet_of (HSmL.out q))
                by_cases hcond : sb = true ∧ lh = t0
                · obtain ⟨rfl, hlt0⟩ := hcond
                  rw [if_pos ⟨hlne, rfl, hlt0⟩] at HRf
                  have hg78 : g8 ≠ g14 := own_ne HCb.out.cy HCb.out.cl rfl rfl (by decide)
                  have hcl0 := HCb.out.cl
                  generalize hnl : last.length = nl at *
                  have hnl0 : (0 : Int) < (nl : Int) := by omega
                  have hnl9 : (nl : Int) ≤ 4000 := by omega
                  have NL := Lib.hid hnl
                  clear hnl hcl hco HFin HOne
                  go_wp2
                  go_quiet ((go_at_call 84; exact HSmL.out _))
                  go_wp2
                  have HCb5 := Lib.hid (HCb.out.kept (below_drewN (Below.refl _ _) nq))
                  have z1d : (wr.drewN nq).cell? ⟨g8, k + 1, none⟩ = some (.int .i64 t1) := z1
                  have HO5 : Hid (OwnAt (wr.drewN nq) w.heap.size 39 4 encR (.slice (some ⟨g14, 0, none⟩) nl c14) last) := Lib.hid (own_drewN hcl0 nq)
                  clear hcl0
                  generalize wr.drewN nq = w5 at *
                  go_loopw [157] (fun i wr => ∃ j : Nat, j ≤ nl ∧ i = .int .i64 j ∧ OwnAt wr w.heap.size 39 4 encR (.slice (some ⟨g14, 0, none⟩) nl c14) (setH t1 (last.take j) ++ last.drop j) ∧ w5.grownBy wr (some g14)) (fun i _ => nl - (intOf i).toNat)
                  case atStart => exact ⟨0, Nat.zero_le _, rfl, by simpa [setH] using HO5.out, World.grownBy.refl _ _⟩
                  case round =>
                    obtain ⟨j, hj, rfl, hown5, hgr5⟩ := hrel
                    have hj0 : (0 : Int) ≤ (j : Int) := by omega
                    by_cases hjn : j < nl
                    · have hjl : j < last.length := by rw [NL.out]; exact hjn
                      have hjn' : (j : Int) < (nl : Int) := by omega
                      have zz := hgr5.cell z1d (by simpa using hg78)
                      have hlen5 : (setH t1 (last.take j) ++ last.drop j).length = nl := by rw [List.length_append, setH, List.length_map, List.length_take, List.length_drop, ← NL.out]; omega
                      unfold OwnAt at hown5
                      rw [hlen5] at hown5
                      have b3 : ∃ u, wr.cell? ⟨g14, j * 4 + 3, none⟩ = some u := by
                        rw [hown5.cellAt _ (by omega)]
                        exact ⟨_, List.getElem?_eq_getElem (by rw [flatMap_len encR 4 encR_len, hlen5]; omega)⟩
                      obtain ⟨u3, b3⟩ := b3
                      have b3f : wr.frozen? ⟨g14, j * 4 + 3, none⟩ = false := hown5.frozenAt _
                      have HS5 := Lib.hid (hown5.stored (j * 4 + 3) (.int .i64 t1))
                      have HSt := Lib.hid (setH_step t1 hjl)
                      have HG5 := Lib.hid hgr5
                      clear hown5 hgr5
                      go_wp2
                      go_roundw
                      case rel =>
                        refine ⟨j + 1, by omega, by simp, ?_, gr_trans HG5.out HS5.out.2⟩
                        have hl6 : (setH t1 (last.take (j + 1)) ++ last.drop (j + 1)).length = nl := by rw [List.length_append, setH, List.length_map, List.length_take, List.length_drop, ← NL.out]; omega
                        unfold OwnAt
                        rw [hl6, ← HSt.out]
                        exact HS5.out.1
                      case measure => simp [intOf]; omega
                    · obtain rfl : j = nl := by omega
                      have e5 : setH t1 (last.take j) ++ last.drop j = setH t1 last := by rw [List.take_of_length_le (by rw [NL.out]; exact Nat.le_refl _), List.drop_of_length_le (by rw [NL.out]; exact Nat.le_refl _), List.append_nil]
                      rw [e5] at hown5
                      have HCb6 := Lib.hid (HCb5.out.high hgr5 hown5 (by simp [setH]))
                      clear hown5 hgr5
                      go_wp2
                      refine ⟨?_, ?_⟩
                      · repeat apply Exists.intro
                        refine ⟨?_, rfl⟩
                        exact ⟨k + 1, out, setH t1 last, .inr (by omega), by simp, HCb6.out, HRf.out⟩
                      · simp [intOf]; omega
                · rw [if_neg (fun h => hcond ⟨h.2.1, h.2.2⟩)] at HRf
                  generalize hxo : out.flatMap encR = xo at hco HFin
                  generalize hno : out.length = no at *
                  generalize hxl : last.flatMap encR = xl at hcl HOne HFin
                  generalize hnl : last.length = nl at *
                  have hnl0 : (0 : Int) < (nl : Int) := by omega
                  cases sb with
                  | false =>
                    clear hcond
                    go_wp2
                    go_quiet ((go_at_call 84; exact HSmL.out _))
                    go_wp2_with (first | (at_builtin; refine wpList_append_row_at _ rfl _ _ 25 rfl w.heap.size 39 i0 _ 4 32 Try.underlying25 hi hz0 hz1 hz2 rfl (by decide) _ no xo rfl (own_drewN hco nq) w.heap.size _ nl xl rfl (own_drewN hcl nq) HOne.out ?c3 ?c4 ?c5 ?_))
                    case c3 => unfold maxLen; omega
                    case c4 => omega
                    case c5 => show w.heap.size ≤ wr.heap.size; omega
                    intro v9 w9 hown9 hgr9 hu9
                    have HCb2 := Lib.hid ((HCb.out.kept (below_drewN (Below.refl _ _) nq)).push (B16 := wk.heap.size) (own_drewN HBnd.out nq) HLt.out hwkz (HFin.out _ _ hown9) hgr9 hu9 hbl)
                    clear hown9 hgr9 hu9 hco hcl
                    go_wp2
                    refine ⟨?_, ?_⟩
                    · repeat apply Exists.intro
                      refine ⟨?_, rfl⟩
                      exact ⟨k + 1, out ++ last, bnd, .inr (by omega), by simp, HCb2.out, HRf.out⟩
                    · simp [intOf]; omega
                  | true =>
                    have hne : ¬ lh = t0 := fun e => hcond ⟨rfl, e⟩
                    have hne' : (lh == t0) = false := beq_eq_false_iff_ne.2 hne
                    clear hcond
                    go_wp2
                    go_quiet ((go_at_call 84; exact HSmL.out _))
                    go_wp2_with (first | (at_builtin; refine wpList_append_row_at _ rfl _ _ 25 rfl w.heap.size 39 i0 _ 4 32 Try.underlying25 hi hz0 hz1 hz2 rfl (by decide) _ no xo rfl (own_drewN hco nq) w.heap.size _ nl xl rfl (own_drewN hcl nq) HOne.out ?c3 ?c4 ?c5 ?_))
                    case c3 => unfold maxLen; omega
                    case c4 => omega
                    case c5 => show w.heap.size ≤ wr.heap.size; omega
                    intro v9 w9 hown9 hgr9 hu9
                    have HCb2 := Lib.hid ((HCb.out.kept (below_drewN (Below.refl _ _) nq)).push (B16 := wk.heap.size) (own_drewN HBnd.out nq) HLt.out hwkz (HFin.out _ _ hown9) hgr9 hu9 hbl)
                    clear hown9 hgr9 hu9 hco hcl
                    go_wp2
                    refine ⟨?_, ?_⟩
                    · repeat apply Exists.intro
                      refine ⟨?_, rfl⟩
                      exact ⟨k + 1, out ++ last, bnd, .inr (by omega), by simp, HCb2.out, HRf.out⟩
                    · simp [intOf]; omega
        · rw [refStep_short (spR how a b xs) out last (ys.drop k) (by rw [List.length_drop, ← NY.out]; omega)] at href
          obtain ⟨p13, c13, rfl⟩ := hst.co.shape
          obtain ⟨p14, c14, rfl⟩ := hst.cl.shape
          have hco := hst.co
          have hcl := hst.cl
          have hkB := hst.cn
          have HBl2 := Lib.hid hst.below
          have hwz := hst.below.size
          have hge := Lib.hid (ownsRow_ge hst.co)
          unfold OwnAt at hco hcl
          have HOne := Lib.hid (oneR last)
          have HFin := Lib.hid (show ∀ (v9 : Value) (w9 : World), w9.ownsRow w.heap.size 39 4 v9 (out.length + last.length) (out.flatMap encR ++ last.flatMap encR) → OwnAt w9 w.heap.size 39 4 encR v9 (refL (refK how) a b (xsOf (a ++ b)) (ysOf (a ++ b))) from fun v9 w9 h => by
            rw [HRl.out, ← href]
            unfold OwnAt
            rw [List.length_append, List.flatMap_append]
            exact h)
          have hk4 : k * 4000 ≤ 16000000 := Nat.le_trans (Nat.mul_le_mul_right 4000 (show k ≤ 4000 by omega)) (by decide)
          have hno1 : out.length ≤ 16000000 := by omega
          have hnl1 := hkB.2
          have HRn := Lib.hid (show (refL (refK how) a b (xsOf (a ++ b)) (ysOf (a ++ b))).length ≤ 100000000 by rw [HRl.out, ← href, List.length_append]; omega)
          have hkn' : ¬ ((k : Int) + 1 < (ny : Int)) := by omega
          have hk0 : (0 : Int) ≤ (k : Int) := by omega
          have hk1 : (k : Int) ≤ 4000 := by omega
          clear hst href hkB
          generalize hxo : out.flatMap encR = xo at hco HFin
          generalize hno : out.length = no at *
          generalize hxl : last.flatMap encR = xl at hcl HOne HFin
          generalize hnl : last.length = nl at *
          go_wp2_with (first | (at_builtin; refine wpList_append_row_at _ rfl _ _ 25 rfl w.heap.size 39 i0 _ 4 32 Try.underlying25 hi hz0 hz1 hz2 rfl (by decide) _ no xo rfl hco w.heap.size _ nl xl rfl hcl HOne.out ?c3 ?c4 ?c5 ?_))
          case c3 => unfold maxLen; omega
          case c4 => omega
          intro v9 w9 hown9 hgr9 hu9
          go_wp2
          go_ret
          exact ⟨_, rfl, HFin.out _ _ hown9, HRn.out, HBl2.out.grown hgr9 hwz hge.out⟩
end Go.Proofs.Ytkpmgdhaollheaa
