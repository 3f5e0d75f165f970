/- shape.joined: the rectangles that are joined with one of them. -/
import Derived.Test.YtdpnkbbphfcngabHA
import Derived.ArgAppend
import Derived.Deep.RegionHeld3
namespace Go.Proofs.Ytdpnkbbphfcngab
open Go.RowKit Go.Shelf

def encT (b : Bool) : List Value := [.bool b]
theorem flat_encT (l : List Bool) : l.flatMap encT = l.map Value.bool := by
  induction l with
  | nil => rfl
  | cons z l ih => rw [List.flatMap_cons, ih]; rfl
theorem info_bool : (Try.prog.info? 4).map (fun i => (i.zero, i.size, i.bytes)) = some (some (.bool false), 1, 1) := by kernel_rfl

/-- One more rectangle: is it joined? -/
def stepJ (l : List Rc) (p : Rc) (s : List Bool × List Rc) (j : Nat) : List Bool × List Rc :=
  if s.1[j]! = false ∧ 0 < btw p l[j]! then (s.1.set j true, s.2 ++ [l[j]!]) else s
def rowJ (l : List Rc) (p : Rc) (s : List Bool × List Rc) (k : Nat) : List Bool × List Rc := (List.range k).foldl (stepJ l p) s
theorem rowJ_succ (l : List Rc) (p : Rc) (s : List Bool × List Rc) (k : Nat) : rowJ l p s (k + 1) = stepJ l p (rowJ l p s k) k := by
  unfold rowJ
  rw [List.range_succ, List.foldl_append]
  rfl
def bfs (l : List Rc) : Nat → Nat → List Bool × List Rc → List Bool × List Rc
  | 0, _, s => s
  | f + 1, i, s => if i < s.2.length then bfs l f (i + 1) (rowJ l s.2[i]! s l.length) else s
/-- WHAT THE CODE COMPUTES: which are taken then, and the rectangles. -/
def joinedL (l : List Rc) (first : Nat) (t : List Bool) : List Bool × List Rc := bfs l (l.length + 1) 0 (t.set first true, [l[first]!])

/-- What stays true. -/
structure JOk (l : List Rc) (s : List Bool × List Rc) : Prop where
  len : s.1.length = l.length
  cnt : s.2.length ≤ s.1.count true
  mem : ∀ r ∈ s.2, r ∈ l
theorem count_set {t : List Bool} {j : Nat} (hj : j < t.length) (h : t[j]! = false) : (t.set j true).count true = t.count true + 1 := by
  rw [getElem!_pos t j hj] at h
  rw [List.count_set hj, h]
  simp
theorem JOk.step {l : List Rc} {s : List Bool × List Rc} (h : JOk l s) (p : Rc) {j : Nat} (hj : j < l.length) : JOk l (stepJ l p s j) := by
  unfold stepJ
  split
  · rename_i hc
    refine ⟨by simpa using h.len, ?_, fun r hr => ?_⟩
    · have := h.cnt
      show (s.2 ++ [l[j]!]).length ≤ (s.1.set j true).count true
      rw [count_set (by rw [h.len]; exact hj) hc.1, List.length_append]
      simp; omega
    · rcases List.mem_append.1 hr with hr | hr
      · exact h.mem r hr
      · rw [List.mem_singleton] at hr; subst hr
        rw [getElem!_pos l j hj]; exact List.getElem_mem _
  · exact h
theorem JOk.row {l : List Rc} {s : List Bool × List Rc} (h : JOk l s) (p : Rc) : ∀ k, k ≤ l.length → JOk l (rowJ l p s k)
  | 0, _ => h
  | k + 1, hk => by rw [rowJ_succ]; exact (h.row p k (by omega)).step p (by omega)
theorem JOk.le {l : List Rc} {s : List Bool × List Rc} (h : JOk l s) : s.2.length ≤ l.length := by
  have h1 := h.cnt
  have h2 := List.count_le_length (a := true) (l := s.1)
  have h3 := h.len
  omega
theorem stepJ_pre (l : List Rc) (p : Rc) (s : List Bool × List Rc) (j : Nat) : ∃ e, (stepJ l p s j).2 = s.2 ++ e := by
  unfold stepJ
  split
  · exact ⟨_, rfl⟩
  · exact ⟨[], by simp⟩
theorem rowJ_pre (l : List Rc) (p : Rc) (s : List Bool × List Rc) : ∀ k, ∃ e, (rowJ l p s k).2 = s.2 ++ e
  | 0 => ⟨[], by simp [rowJ]⟩
  | k + 1 => by
    obtain ⟨e, he⟩ := rowJ_pre l p s k
    obtain ⟨f, hf⟩ := stepJ_pre l p (rowJ l p s k) k
    exact ⟨e ++ f, by rw [rowJ_succ, hf, he, List.append_assoc]⟩
theorem rowJ_get {l : List Rc} {p : Rc} {s : List Bool × List Rc} {k i : Nat} (hi : i < s.2.length) : (rowJ l p s k).2[i]! = s.2[i]! ∧ i < (rowJ l p s k).2.length := by
  obtain ⟨e, he⟩ := rowJ_pre l p s k
  have hl : i < (rowJ l p s k).2.length := by rw [he, List.length_append]; omega
  refine ⟨?_, hl⟩
  rw [getElem!_pos _ i hl, getElem!_pos _ i hi]
  simp only [he]
  rw [List.getElem_append_left hi]
theorem JOk.init {l : List Rc} {t : List Bool} {first : Nat} (ht : t.length = l.length) (hf : first < l.length) : JOk l (t.set first true, [l[first]!]) := by
  refine ⟨by simpa using ht, ?_, fun r hr => ?_⟩
  · show 1 ≤ (t.set first true).count true
    have : true ∈ t.set first true := by
      rw [List.mem_iff_getElem]
      exact ⟨first, by simp; omega, by simp⟩
    exact List.count_pos_iff.2 this
  · rw [List.mem_singleton] at hr; subst hr
    rw [getElem!_pos l first hf]; exact List.getElem_mem _
theorem bfs_ok {l : List Rc} : ∀ (f i : Nat) {s : List Bool × List Rc}, JOk l s → JOk l (bfs l f i s)
  | 0, _, _, h => h
  | f + 1, i, s, h => by
    rw [bfs]
    split
    · exact bfs_ok f (i + 1) (h.row _ _ (Nat.le_refl _))
    · exact h
theorem joined_ok {l : List Rc} {t : List Bool} {first : Nat} (ht : t.length = l.length) (hf : first < l.length) : JOk l (joinedL l first t) := bfs_ok _ _ (JOk.init ht hf)

/-- The queue: a rectangle of the region's own, with no room behind it, or a row of the call's own. -/
def QAt (w : World) (B : Nat) (v : Value) (q : List Rc) : Prop := RectsAt w v q ∧ ((q.length = 1 ∧ ∃ b off, v = .slice (some ⟨b, off, none⟩) 1 1) ∨ OwnAt w B 49 4 encR v q)
theorem QAt.but {w w' : World} {B : Nat} {v : Value} {q : List Rc} {row : Option Nat} (h : QAt w B v q) (hg : w.grownBy w' row) (hv : ∀ k, v.ownBlock = some k → row ≠ some k) : QAt w' B v q := by
  refine ⟨h.1.but hg hv, ?_⟩
  rcases h.2 with h2 | h2
  · exact .inl h2
  · refine .inr (World.ownsRow.kept h2 hg ?_)
    cases hvb : v.ownBlock with
    | none => exact .inl rfl
    | some k => exact .inr (fun e => hv k hvb e.symm)

/-- A rectangle behind the queue. -/
theorem wpList_append_q {w : World} {ops : Array Oper} {rest : List Oper} {o : Oper} {a : Act} {Q : Exit → Act → World → Prop} (hgd : o.guard = none) (s x : Operand)
    (ho : o.op = .call { callee := .builtin .append, args := #[s, x], argTypes := #[23, 23] })
    (B : Nat) (v : Value) (q : List Rc) (hs : a.eval s = v) (hq : QAt w B v q) (b c : Nat) (r : Rc) (hx : a.eval x = .slice (some ⟨b, 0, none⟩) 1 c) (hc : BoxAt w b #[.int .i64 r.l, .int .i64 r.b, .int .i64 r.r, .int .i64 r.h] 49)
    (hl : q.length ≤ 1000000) (hB : B ≤ w.heap.size)
    (h : ∀ v' w', OwnAt w' B 49 4 encR v' (q ++ [r]) → (∀ k, v'.ownBlock = some k → B ≤ k) → (∀ (w0 : World) (row : Option Nat), w0.heap.size = B → w0.grownBy w row → w0.grownBy w' row) → (∃ row, w.grownBy w' row ∧ ∀ k, row = some k → v.ownBlock = some k) → wpList Try.prog ops Q rest (a.put o.dst v') w') : wpList Try.prog ops Q (o :: rest) a w := by
  obtain ⟨i0, hi, hz0, hz1, hz2⟩ := info_parts info_rect
  have hnews : ∀ j u, [Value.int .i64 r.l, .int .i64 r.b, .int .i64 r.r, .int .i64 r.h][j]? = some u → w.cell? ((⟨b, 0, none⟩ : Addr).add j) = some u := by
    intro j u hu
    have := hc.cell (i := j) (u := u) (by simpa using hu)
    rw [Addr.add_lit, Nat.zero_add]
    exact this
  rcases hq.2 with ⟨h1, b1, off, rfl⟩ | hown
  · obtain ⟨p', cap', e, _, _, hcell⟩ := hq.1
    rw [h1] at e hcell
    cases e
    obtain ⟨b2, off2, e2, hlt, hrc⟩ := hcell 0 (by decide)
    cases e2
    have hq1 : q = [q[0]!] := by
      match q, h1 with
      | [x], _ => rfl
    obtain ⟨c0, c1, c2, c3⟩ := hrc
    simp only [Nat.zero_mul, Nat.add_zero] at c0 c1 c2 c3
    refine wpList_append_grows w hgd s x 23 ho 49 i0 _ 4 32 Try.underlying23 hi hz0 hz1 hz2 rfl (by decide) (some ⟨b1, off, none⟩) 1 1 (encR q[0]!) hs (fun e => by cases e) rfl ?_ ⟨b, 0, none⟩ 1 c _ hx rfl hnews (List.all_eq_true.1 rfl) (by decide) (by decide) (by decide) ?_
    · intro ad had j u hu
      cases had
      match j, hu with
      | 0, hu => cases hu; rw [Addr.add_lit]; exact c0
      | 1, hu => cases hu; rw [Addr.add_lit]; exact c1
      | 2, hu => cases hu; rw [Addr.add_lit]; exact c2
      | 3, hu => cases hu; rw [Addr.add_lit]; exact c3
      | j + 4, hu => simp [encR] at hu
    · intro v' w' hown hgr
      refine h v' w' ?_ ?_ ?_ ?_
      · have : OwnAt w' w.heap.size 49 4 encR v' (q ++ [r]) := by
          unfold OwnAt
          rw [List.length_append, h1, List.flatMap_append]
          conv => rhs; rw [hq1]
          simpa [encR] using hown
        exact World.ownsRow.mono this hB
      · intro k hk
        have := ownsRow_ge hown k hk
        omega
      · intro w0 row _ h0
        exact gr_trans h0 (gr_weak hgr)
      · exact ⟨none, hgr, fun k hk => by cases hk⟩
  · unfold OwnAt at hown
    refine wpList_append_own w hgd s x 23 ho B 49 i0 _ 4 32 Try.underlying23 hi hz0 hz1 hz2 rfl (by decide) v q.length _ hs hown ⟨b, 0, none⟩ 1 c [.int .i64 r.l, .int .i64 r.b, .int .i64 r.r, .int .i64 r.h] hx rfl hnews (List.all_eq_true.1 rfl) (by unfold maxLen; omega) (by omega) hB ?_
    intro v' w' hown' hgr _
    have ho2 := OwnAt.snoc (l := q) (m := [r]) (enc := encR) (n := 1) rfl hown'
    refine h v' w' ho2 (ownsRow_ge ho2) ?_ ⟨_, hgr, fun k hk => hk⟩
    intro w0 row hw0 h0
    subst hw0
    exact gr_own h0 hgr hown
end Go.Proofs.Ytdpnkbbphfcngab
